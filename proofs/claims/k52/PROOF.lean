import PyProof.Rows.All
import Wide.All
import OpenK.AllK
import Wide.FinOn
import HandS.ForMost
import HandS.IsInst
import HandS.TupAny
import HandS.TupMul
import HandS.Style
import PyProof.ReprRoads
import PyProof.FactsAll.subtypes
import PyProof.FactsAll.dict
import HandS.More
import PyProof.AutoSeq1
import HandS.Defaults
import PyProof.Rows.IntBool
import PyProof.Rows.StrCase
import PyProof.CallStr
import HandS.SetTxt0
import HandS.Set
import KE.GoesSet
import HandS.TupSets
import HandS.Strs
import HandS.SetBool
import KE.KSortTupG
import HandS.Star
import HandS.SortKw
import HandS.StrMore
import HandS.Rev
import HandS.SortOrd
import KE.GoesEnum
import KE.GoesMore
import HandS.Iter
import HandS.Zip
import HandS.DictComp
import KE.KDictKeyed
import KE.KeyNested
import KE.KDictCopyH
import KE.KDictList
import HandS.Zip0
import KE.KDictZip
import HandS.Dict
import HandS.SetFor
import HandS.NoneIn
import HandS.Deep
import HandS.Conv
import HandS.MakeKwOnly
import HandS.TupLe
import HandS.SortInts
import PySem.Challenge.RW_poisonrules_k52_outcomes_let
set_option Elab.async false
set_option linter.all false
set_option maxRecDepth 100000
set_option maxHeartbeats 6000000
namespace Vf
open PySem L2 PyProof.Rows PySem.Spec
/-! ## data: what stands at a value, dicts too -/
def keyD : Key → PyData
  | .inl i => .int i
  | .inr x => .str x
mutual
inductive Dv (H : Hp) : V → PyData → Prop
  | non : Dv H .non .none
  | bl (b : Bool) : Dv H (.bl b) (.bool b)
  | int (i : Int) : Dv H (.int i) (.int i)
  | str (x : Str) : Dv H (.str x) (.str x)
  | lst {a : Addr} {xs : List V} {ds : List PyData} : H a = some (.lst xs) → DvAll H xs ds → Dv H (.ref a) (.list ds)
  | tup {a : Addr} {xs : List V} {ds : List PyData} : H a = some (.tup xs) → DvAll H xs ds → Dv H (.ref a) (.tuple ds)
  | dic {a : Addr} {kvs : List (Key × V)} {ds : List PyData} : H a = some (.dK kvs) → DvAll H (kvs.map (·.2)) ds → Dv H (.ref a) (.dict ((kvs.map fun p => keyD p.1).zip ds))
inductive DvAll (H : Hp) : List V → List PyData → Prop
  | nil : DvAll H [] []
  | cons {v : V} {vs : List V} {d : PyData} {ds : List PyData} : Dv H v d → DvAll H vs ds → DvAll H (v :: vs) (d :: ds)
end
mutual
theorem Dv.same {H H' : Hp} (s : Same H H') : ∀ {v : V} {d : PyData}, Dv H v d → Dv H' v d
  | _, _, .non => .non
  | _, _, .bl b => .bl b
  | _, _, .int i => .int i
  | _, _, .str x => .str x
  | _, _, .lst e h => .lst (s _ _ e) (h.same s)
  | _, _, .tup e h => .tup (s _ _ e) (h.same s)
  | _, _, .dic e h => .dic (s _ _ e) (h.same s)
theorem DvAll.same {H H' : Hp} (s : Same H H') : ∀ {v : List V} {d : List PyData}, DvAll H v d → DvAll H' v d
  | _, _, .nil => .nil
  | _, _, .cons h t => .cons (h.same s) (t.same s)
end
theorem DvAll.len {H : Hp} : ∀ {v : List V} {d : List PyData}, DvAll H v d → v.length = d.length
  | _, _, .nil => rfl
  | _, _, .cons _ t => congrArg (· + 1) t.len
section
variable {X : Cx} {s : Shared} {H : Hp} {σ : L2.St} {pins : List (Addr × Obj)}
theorem keys_read {P : Program} {w : World} {h : Heap} : ∀ {es : List DictEntry} {vs : List (Key × Value)} {kvs : List (Key × V)}, Pairs (mixKind P w) es vs → KV kvs vs →
    ReadsAll h (es.map (·.key)) (kvs.map fun p => keyD p.1) [] ∧ Vals (kvs.map (·.2)) (es.map (·.val))
  | [], [], _, .nil, k => by
    cases k
    exact ⟨.nil, .nil⟩
  | e :: es, (k, u) :: vs, _, .cons hk hv hp, .cons (a := p) r t => by
    obtain ⟨r1, r2⟩ := keys_read (h := h) hp t
    obtain ⟨e1, e2⟩ := r
    obtain ⟨k', v⟩ := p
    have ek : k' = k := e1
    subst ek
    refine ⟨?_, .cons (show RelV v e.val by rw [hv]; exact e2) r2⟩
    show ReadsAll h (e.key :: es.map (·.key)) (keyD k' :: _) ([] ++ [])
    refine .cons ?_ r1
    rcases keyIs_shape hk with ⟨i, tk, rfl, ev⟩ | ⟨x, tk, rfl, ev⟩
    · rw [ev]
      exact .int _ _
    · rw [ev]
      exact .str _ _
theorem zip_fst : ∀ {a : List PyData} {b : List PyData}, a.length = b.length → (a.zip b).map (·.1) = a
  | [], [], _ => rfl
  | x :: a, y :: b, h => by
    show x :: (a.zip b).map (·.1) = x :: a
    rw [zip_fst (Nat.succ.inj h)]
theorem zip_snd : ∀ {a : List PyData} {b : List PyData}, a.length = b.length → (a.zip b).map (·.2) = b
  | [], [], _ => rfl
  | x :: a, y :: b, h => by
    show y :: (a.zip b).map (·.2) = y :: b
    rw [zip_snd (Nat.succ.inj h)]
mutual
theorem Dv.read (I : Inv X pins σ H s) : ∀ {v : V} {d : PyData}, Dv H v d → ∀ (u : Value), RelV v u → ∃ as, Reads s.heap u d as ∧ ∀ b ∈ as, H b ≠ none
  | _, _, .non, u, r => by
    cases r
    exact ⟨_, .none, nofun⟩
  | _, _, .bl b, u, r => by
    cases r
    exact ⟨_, .bool b, nofun⟩
  | _, _, .int i, u, r => by
    obtain ⟨t, rfl⟩ := r
    exact ⟨_, .int i t, nofun⟩
  | _, _, .str x, u, r => by
    obtain ⟨t, rfl⟩ := r
    exact ⟨_, .str x t, nofun⟩
  | _, _, @Dv.lst _ a xs ds e ha, u, r => by
    cases r
    obtain ⟨_, its, n, rv, ho⟩ : ObjOk X.prog X.w H s.heap a (.lst xs) := I.hok a _ e
    obtain ⟨as, hr, hb⟩ := DvAll.read I ha its rv
    exact ⟨_, .list ho rfl rfl hr, fun b m => by
      rcases List.mem_cons.mp m with rfl | m
      · rw [e]; nofun
      · exact hb b m⟩
  | _, _, @Dv.tup _ a xs ds e ha, u, r => by
    cases r
    obtain ⟨_, its, rv, o, ho, hc, n, hd⟩ : ObjOk X.prog X.w H s.heap a (.tup xs) := I.hok a _ e
    obtain ⟨as, hr, hb⟩ := DvAll.read I ha its rv
    exact ⟨_, .tuple ho hc hd hr, hb⟩
  | _, _, @Dv.dic _ a kvs ds e ha, u, r => by
    cases r
    obtain ⟨_, hsys, vs, kv, o, es, ep, ho, ⟨hc, _⟩, hd, _, hp, _⟩ : ObjOk X.prog X.w H s.heap a (.dK kvs) := I.hok a _ e
    obtain ⟨rk, rv⟩ := keys_read (h := s.heap) hp kv
    have hl : (kvs.map fun p => keyD p.1).length = ds.length := by
      have := ha.len
      simpa using this
    obtain ⟨bs, hr, hb⟩ := DvAll.read I ha _ rv
    refine ⟨_, .dict ho hc hd (by rw [zip_fst hl]; exact rk) (by rw [zip_snd hl]; exact hr), fun b m => ?_⟩
    rcases List.mem_cons.mp (by simpa using m) with rfl | m
    · rw [e]; nofun
    · exact hb b m
theorem DvAll.read (I : Inv X pins σ H s) : ∀ {vs : List V} {ds : List PyData}, DvAll H vs ds → ∀ (us : List Value), Vals vs us → ∃ as, ReadsAll s.heap us ds as ∧ ∀ b ∈ as, H b ≠ none
  | _, _, .nil, us, r => by
    cases r
    exact ⟨_, .nil, nofun⟩
  | _, _, .cons h1 h2, us, r => by
    cases r with
    | cons r1 r2 =>
      obtain ⟨as, q1, b1⟩ := Dv.read I h1 _ r1
      obtain ⟨bs, q2, b2⟩ := DvAll.read I h2 _ r2
      exact ⟨_, .cons q1 q2, fun b m => (List.mem_append.mp m).elim (b1 b) (b2 b)⟩
end
theorem flat_read (I : Inv X pins σ H s) : ∀ {vs : List V} {ds : List PyData}, DvAll H vs ds → vs.all flatV = true → ∀ (us : List Value), Vals vs us → ReadsAll s.heap us ds []
  | _, _, .nil, _, us, r => by
    cases r
    exact .nil
  | _, _, @DvAll.cons _ v vs d ds h1 h2, f, us, r => by
    have f := (Bool.and_eq_true _ _).mp f
    cases r with
    | @cons _ u _ us r1 r2 =>
      have q2 := flat_read I h2 f.2 _ r2
      have q1 : Reads s.heap u d [] := by
        cases h1 with
        | non => cases r1; exact .none
        | bl b => cases r1; exact .bool b
        | int i =>
          obtain ⟨t, rfl⟩ := r1
          exact .int i t
        | str x =>
          obtain ⟨t, rfl⟩ := r1
          exact .str x t
        | lst _ _ => cases f.1
        | tup _ _ => cases f.1
        | dic _ _ => cases f.1
      exact .cons q1 q2
/-- a dict is shown where it stands alone, its values flat -/
def FlatDict (H : Hp) (x : V) : Prop := ∃ a kvs, x = .ref a ∧ H a = some (.dK kvs) ∧ (kvs.map (·.2)).all flatV = true
/-- repr(x), x data -/
def rRepr : List V → Hp → VK → Prop := fun xs H Q => ∃ x d, xs = [x] ∧ Dv H x d ∧ d.showable = true ∧ (d.hasDict = false ∨ FlatDict H x) ∧ d.depth ≤ 50 ∧ d.shown.length ≤ sizeLine ∧ Q (.str d.shown) H
theorem call_reprD (hg : X.A.guards = some []) (hu : X.A.units + 64 < cLine) : CallR X (.builtin "repr") rRepr := by
  intro pins s σ H xs us Q I rr h
  obtain ⟨x, d, rfl, hd, hs, hn, hp, hz, q⟩ := h
  obtain ⟨u, rfl, rx⟩ := vals1 rr
  have fin : ∀ (h' : Heap) (t k : Tok), (∀ b o, s.heap.get? b = some o → h'.get? b = some o) → EP X pins σ Q (.str d.shown t) { s with heap := h', toks := k } := fun h' t k kp =>
    ⟨.str d.shown, H, I.kept kp, ⟨t, rfl⟩, q⟩
  have main : ∃ as, Reads s.heap u d as ∧ (d.hasDict = true → sysModules ∉ as) := by
    rcases hn with hn | ⟨a, kvs, rfl, ha, hf⟩
    · obtain ⟨as, rd, -⟩ := Dv.read I hd u rx
      exact ⟨as, rd, fun z => by rw [hn] at z; cases z⟩
    · cases hd with
      | lst e _ => rw [ha] at e; cases e
      | tup e _ => rw [ha] at e; cases e
      | @dic _ kvs' ds e hv =>
        rw [ha] at e; cases e
        cases rx
        obtain ⟨_, hsys, vs, kv, o, es, ep, ho, ⟨hc, _⟩, hdd, _, hpp, _⟩ : ObjOk X.prog X.w H s.heap a (.dK kvs) := I.hok a _ ha
        obtain ⟨rk, rv⟩ := keys_read (h := s.heap) hpp kv
        have hl : (kvs.map fun p => keyD p.1).length = ds.length := by
          have := hv.len
          simpa using this
        refine ⟨_, .dict ho hc hdd (by rw [zip_fst hl]; exact rk) (by rw [zip_snd hl]; exact flat_read I hv hf _ rv), fun _ m => ?_⟩
        have m' : sysModules = a := by simpa using m
        rw [m'] at hsys
        simp at hsys
  obtain ⟨as, rd, hm⟩ := main
  cases rd with
  | none =>
    simp only [PyData.shown] at fin
    exact PySem.P.repr_of_none (fin _ _ _ fun _ _ e => e)
  | bool b =>
    simp only [PyData.shown] at fin
    exact PySem.P.repr_of_bool (fin _ _ _ fun _ _ e => e)
  | int i t =>
    simp only [PyData.shown] at fin
    exact PySem.P.repr_of_int (by simpa [PyData.showable] using hs) (fin _ _ _ fun _ _ e => e)
  | str y t =>
    simp only [PyData.shown] at fin hz
    exact PySem.P.repr_of_str (fin _ _ _ fun _ _ e => e) hz
  | list h1 h2 h3 h4 => exact repr_of_reads' (.list h1 h2 h3 h4) hs hm hg (by omega) (fun _ _ e => e) fin hz
  | tuple h1 h2 h3 h4 => exact repr_of_reads' (.tuple h1 h2 h3 h4) hs hm hg (by omega) (fun _ _ e => e) fin hz
  | dict h1 h2 h3 h4 h5 => exact repr_of_reads' (.dict h1 h2 h3 h4 h5) hs hm hg (by omega) (fun _ _ e => e) fin hz
end
end Vf
namespace Vf
open PySem L2 PyProof.Rows PySem.Spec
/-! ## a def's promise where no repr is under way -/
structure FnG (P : Program) (w : World) (K : PySem.W.Frag) (mg : Str → Option Value) (base : Heap) (C : CXT) (k : Nat) (f : Addr) (fd : FuncData) (ps : List Str) (sp : Sp) : Prop where
  many : ∀ vs H Q E, sp vs H Q E → vs.length = ps.length
  go : ∀ (A : Around) (outer : List Env) (s : Shared) (H : Hp) (args : Args) (us : List Value) (vs : List V) (Q : VK) (E : XK), A.guards = some [] → Room k A → Env0 P w K mg base A outer s H → BindsTo s fd args (ps.zip us) →
    Vals vs us → sp vs H Q E → codeAny (model P w) A (.call (.ref f) args) (CR C outer P w H s Q E) s
section
variable {K : PySem.W.Frag} {P : Program} {w : World} {base : Heap} {mg : Str → Option Value}
theorem fnG_of {C : CXT} {k : Nat} {f : Addr} {name qual : Str} {params : Arguments} {body : List Stmt} {scope : Scope} {dV kV doc pm cdv ct oc : Value} {an od : Option Addr} {osl : Array (Option Value)} {N ps : List Str} {sp : Sp}
    (at_ : K.lookup f = some ⟨oc, od, .func (PySem.W.fnOf name qual params body scope dV kV doc pm an cdv ct), osl⟩) (code : PySem.W.codeIn K cdv qual = true) (S : FnScope N ps scope) (many : ∀ vs H Q E, sp vs H Q E → vs.length = ps.length)
    (bd : ∀ (A : Around) (outer : List Env) (s : Shared) (H : Hp) (vs : List V) (Q : VK) (E : XK), (A.deeper (envOfC qual scope s.heap.objs.size f cdv)).guards = some [] → Room k (A.deeper (envOfC qual scope s.heap.objs.size f cdv)) → sp vs H Q E →
      ∃ t, PSs (cxOf C P w K mg base N qual scope f cdv A outer s H E) body t ∧ t { nx := fun _ H' => Q .non H', rt := Q } (start N vs) H) :
    FnG P w K mg base C (k + 1) f (PySem.W.fnOf name qual params body scope dV kV doc pm an cdv ct) ps sp where
  many := many
  go := by
    intro A outer s H args us vs Q E hg hr env0 hb rv hsp
    have hKs : K.In s.heap := env0.mod.kin.keeps fun b o z => (env0.bs b o z).1
    have hlim : s.heap.NoLimit := env0.mod.nolimit.keeps fun b o z => (env0.bs b o z).1
    refine codeAny_call_function hr.depth (hKs _ _ at_) rfl S.co S.gen rfl (PySem.W.codeRec_of hKs code) (hb _ _ _ _ ?_)
    refine wpAny_newFunctionEnv_cells S.kind (fun y hy => ?_) fun env he s1 x => ?_
    · rcases S.par y.1 (List.of_mem_zip hy).1 with z | z
      · exact .inl z
      · exact .inr ⟨z, PySem.W.cellsFrom_some _ _ _ (.inl z)⟩
    · subst he
      obtain ⟨t, derived, reads⟩ := bd A outer s H vs Q E hg (hr.deeper _) hsp
      refine ⟨hlim.keeps x.toInCall.keep, codeAny_func (wpAny_mono (derived.run [] s1 (start N vs) H _ (inv_start S hr.hd env0 (many _ _ _ _ hsp) rv x) reads) (fun fl s' hs => ?_) fun _ _ hs => hs)⟩
      cases fl with
      | ret u =>
        obtain ⟨v, σ', H', J, rv', q⟩ := hs
        exact ⟨v, H', J.os, J.bare, J.base, J.hok, rv', q⟩
      | next =>
        obtain ⟨σ', H', J, q⟩ := hs
        exact ⟨V.non, H', J.os, J.bare, J.base, J.hok, rfl, q⟩
      | brk =>
        obtain ⟨_, _, _, q⟩ := hs
        exact q.elim
      | cont =>
        obtain ⟨_, _, _, q⟩ := hs
        exact q.elim
/-- a def of the top's text, as it stands in the module -/
structure Df (K : PySem.W.Frag) (mg : Str → Option Value) (x : Str) (st : Stmt) (f : Addr) (fd : FuncData) : Prop where
  fn : Fun K x x st f fd
  gl : mg x = some (.ref f)
/-- a def that may be called -/
structure Cal (P : Program) (w : World) (K : PySem.W.Frag) (mg : Str → Option Value) (base : Heap) (x : Str) (ps : List Str) (k : Nat) (sp : Sp) : Prop where
  ex : ∃ f fd, FnG P w K mg base CX0 k f fd ps sp ∧ mg x = some (.ref f) ∧ PySem.W.keepIn K (.ref f) = true ∧ Binds K fd ps []
theorem Df.fnG {x : Str} {st : Stmt} {f : Addr} {fd : FuncData} {N ps : List Str} {k : Nat} {sp : Sp} (D : Df K mg x st f fd) (S : FnScope N ps (defScope st)) (many : ∀ vs H Q E, sp vs H Q E → vs.length = ps.length)
    (bd : ∀ (cdv : Value) (A : Around) (outer : List Env) (s : Shared) (H : Hp) (vs : List V) (Q : VK) (E : XK), (A.deeper (envOfC x (defScope st) s.heap.objs.size f cdv)).guards = some [] → Room k (A.deeper (envOfC x (defScope st) s.heap.objs.size f cdv)) → sp vs H Q E →
      ∃ t, PSs (cxOf CX0 P w K mg base N x (defScope st) f cdv A outer s H E).nox (defBody st) t ∧ t { nx := fun _ H' => Q .non H', rt := Q } (start N vs) H) : FnG P w K mg base CX0 (k + 1) f fd ps sp := by
  obtain ⟨oc, od, kV, doc, pm, an, cdv, ct, osl, rfl, here, code⟩ := D.fn.ex
  refine fnG_of here code S many fun A outer s H vs Q E hg hr hsp => ?_
  obtain ⟨t, h1, h2⟩ := bd cdv A outer s H vs Q E hg hr hsp
  exact ⟨t, h1.nox, h2⟩
theorem Df.cal {x : Str} {st : Stmt} {f : Addr} {fd : FuncData} {N ps : List Str} {k : Nat} {sp : Sp} (D : Df K mg x st f fd) (S : FnScope N ps (defScope st)) (many : ∀ vs H Q E, sp vs H Q E → vs.length = ps.length)
    (bi : ∀ (kV doc pm : Value) (an : Option Addr) (cdv ct : Value) (us : List Value), us.length = ps.length → bindArgs (PySem.W.fnOf x x (defArgs st) (defBody st) (defScope st) .none kV doc pm an cdv ct) ⟨us, []⟩ = pure (ps.zip us))
    (bd : ∀ (cdv : Value) (A : Around) (outer : List Env) (s : Shared) (H : Hp) (vs : List V) (Q : VK) (E : XK), (A.deeper (envOfC x (defScope st) s.heap.objs.size f cdv)).guards = some [] → Room k (A.deeper (envOfC x (defScope st) s.heap.objs.size f cdv)) → sp vs H Q E →
      ∃ t, PSs (cxOf CX0 P w K mg base N x (defScope st) f cdv A outer s H E).nox (defBody st) t ∧ t { nx := fun _ H' => Q .non H', rt := Q } (start N vs) H) : Cal P w K mg base x ps (k + 1) sp :=
  ⟨f, fd, D.fnG S many bd, D.gl, D.fn.kp, D.fn.binds bi⟩
end
section
variable {X : Cx} {k : Nat} {ps ks : List Str} {sp : Sp} {x : Str} {p pos kpos : Pos} {e : Expr} {es : List Expr} {kws : List Keyword} {t tk : TA} {nm : Option Str}
theorem go_cal {f : Addr} {fd : FuncData} {pins : List (Addr × Obj)} {σ : L2.St} {H : Hp} {s : Shared} {Q : VK} {args : Args} {us : List Value} {vs : List V} (F : FnG X.prog X.w X.K X.mg X.base CX0 k f fd ps sp) (hg : X.A.guards = some []) (hr : Room k X.A)
    (I : Inv X pins σ H s) (hb : BindsTo s fd args (ps.zip us)) (r : Vals vs us) (h : sp vs H Q E0) : codeAny (model X.prog X.w) X.A (.call (.ref f) args) (callEnd (EP X pins σ Q) X.xe) s := by
  refine codeAny_mono (F.go X.A X.stack s H args us vs Q E0 hg hr I.env0 hb r h) fun res s' hq => ?_
  cases res with
  | error _ => exact False.elim hq
  | ok fl =>
    cases fl with
    | ret u => exact I.after hq
    | next => exact False.elim hq
    | brk => exact False.elim hq
    | cont => exact False.elim hq
theorem pe_cal (c : Cal X.prog X.w X.K X.mg X.base x ps k sp) (hgd : X.A.guards = some []) (hr : Room k X.A) (hg : Gl X x) (ha : PA X (e :: es) t) (hdb : (x == ("__debug__" : Str)) = false := by decide)
    (he : starEach (e :: es) X.env = (false, eval e X.env) :: starEach es X.env := by rfl) (hpl : (backTo pos (starEach es X.env)).any (·.1) = false := by rfl) : PE X (.Call (.Name x p) (e :: es) [] pos) (tCall sp [] E0 t) := by
  obtain ⟨f, fd, F, gl, kp, bi⟩ := c.ex
  refine ⟨fun pins s σ H Q I h => wpAny_Call_Name_kw (ld_glob I hg gl ?_ hdb)⟩
  refine PySem.W.callWith_K (h₀ := X.base) I.ok.mod.kin kp (thn (ha.run pos pins s σ H _ I h) fun us s1 ⟨vs, H1, I1, r, q⟩ => ⟨I1.kIn, ?_⟩) he hpl
  have q : sp (vs ++ []) H1 Q E0 := q
  rw [List.append_nil] at q
  have hb := bi s1 us I1.kIn (by rw [List.append_nil, ← r.length]; exact F.many _ _ _ _ q)
  rw [List.append_nil] at hb
  exact wpAny_call (go_cal F hgd hr I1 hb r q)
theorem pe_cal0 (c : Cal X.prog X.w X.K X.mg X.base x ps k sp) (hgd : X.A.guards = some []) (hr : Room k X.A) (hg : Gl X x) (hdb : (x == ("__debug__" : Str)) = false := by decide) : PE X (.Call (.Name x p) [] [] pos) (tCall sp [] E0 tNil) := by
  obtain ⟨f, fd, F, gl, kp, bi⟩ := c.ex
  refine ⟨fun pins s σ H Q I h => wpAny_Call_Name_kw (ld_glob I hg gl ?_ hdb)⟩
  have h' : sp [] H Q E0 := h
  have hb := bi s [] I.kIn (by rw [List.append_nil]; exact F.many _ _ _ _ h')
  exact PySem.W.callWith_K0 I.kIn kp (wpAny_call (go_cal F hgd hr I hb .nil h'))
/-- a def that may be called by keywords: n by places, then the names ks; g puts them in the parameters' order -/
structure CalK (P : Program) (w : World) (K : PySem.W.Frag) (mg : Str → Option Value) (base : Heap) (x : Str) (ps ks : List Str) (n : Nat) (g : ∀ α : Type, List α → List α → List α) (k : Nat) (sp : Sp) : Prop where
  ex : ∃ f fd, FnG P w K mg base CX0 k f fd ps sp ∧ mg x = some (.ref f) ∧ PySem.W.keepIn K (.ref f) = true ∧ (∀ (s : Shared) (us ws : List Value), us.length = n → ws.length = ks.length → BindsTo s fd ⟨us, ks.zip ws⟩ (ps.zip (g Value us ws)))
  rel : ∀ {vs : List V} {us : List Value} {zs : List V} {ws : List Value}, Vals vs us → Vals zs ws → Vals (g V vs zs) (g Value us ws)
def tCalK (n m : Nat) (g : ∀ α : Type, List α → List α → List α) (sp : Sp) (t tk : TA) : TE := fun σ H Q => t σ H fun vs H1 => tk σ H1 fun zs H2 => vs.length = n ∧ zs.length = m ∧ sp (g V vs zs) H2 Q E0
theorem pe_calK0 {n : Nat} {g : ∀ α : Type, List α → List α → List α} (c : CalK X.prog X.w X.K X.mg X.base x ps ks n g k sp) (hgd : X.A.guards = some []) (hr : Room k X.A) (hg : Gl X x) (hkw : PK X kws tk)
    (hal : (backToKw pos (keywordEach kws X.env)).all (·.1.isSome) = true := by rfl) (hks : (backToKw pos (keywordEach kws X.env)).filterMap (·.1) = ks := by rfl) (hdb : (x == ("__debug__" : Str)) = false := by decide)
    (hpl : ((backTo pos (starEach [] X.env)).any (·.1) || (backToKw pos (keywordEach kws X.env)).any (·.1.isNone)) = false := by rfl) : PE X (.Call (.Name x p) [] kws pos) (tCalK n ks.length g sp tNil tk) := by
  obtain ⟨f, fd, F, gl, kp, bi⟩ := c.ex
  refine ⟨fun pins s σ H Q I h => wpAny_Call_Name_kw (ld_glob I hg gl ?_ hdb)⟩
  refine PySem.W.callWith_KW0 (h₀ := X.base) I.ok.mod.kin kp hal (thn (hkw.run pos pins s σ H _ I h) fun ws s1 ⟨zs, H1, I1, rz, n0, m0, q⟩ => ⟨I1.kIn, ?_⟩) hpl
  rw [hks]
  exact wpAny_call (go_cal F hgd hr I1 (bi s1 [] ws n0 (by rw [← rz.length]; exact m0)) (c.rel .nil rz) q)
theorem pe_calK {n : Nat} {g : ∀ α : Type, List α → List α → List α} (c : CalK X.prog X.w X.K X.mg X.base x ps ks n g k sp) (hgd : X.A.guards = some []) (hr : Room k X.A) (hg : Gl X x) (ha : PA X (e :: es) t) (hkw : PK X kws tk)
    (hal : (backToKw pos (keywordEach kws X.env)).all (·.1.isSome) = true := by rfl) (hks : (backToKw pos (keywordEach kws X.env)).filterMap (·.1) = ks := by rfl) (hdb : (x == ("__debug__" : Str)) = false := by decide)
    (he : starEach (e :: es) X.env = (false, eval e X.env) :: starEach es X.env := by rfl)
    (hpl : ((backTo pos (starEach (e :: es) X.env)).any (·.1) || (backToKw pos (keywordEach kws X.env)).any (·.1.isNone)) = false := by rfl) : PE X (.Call (.Name x p) (e :: es) kws pos) (tCalK n ks.length g sp t tk) := by
  obtain ⟨f, fd, F, gl, kp, bi⟩ := c.ex
  refine ⟨fun pins s σ H Q I h => wpAny_Call_Name_kw (ld_glob I hg gl ?_ hdb)⟩
  refine PySem.W.callWith_KW (h₀ := X.base) I.ok.mod.kin kp hal (thn (ha.run pos pins s σ H _ I h) fun us s1 ⟨vs, H1, I1, r1, q1⟩ => ?_) hpl he
  refine thn (hkw.run pos pins s1 σ H1 _ I1 q1) fun ws s2 ⟨zs, H2, I2, rz, n0, m0, q⟩ => ⟨I2.kIn, ?_⟩
  rw [hks]
  exact wpAny_call (go_cal F hgd hr I2 (bi s2 us ws (by rw [← r1.length]; exact n0) (by rw [← rz.length]; exact m0)) (c.rel r1 rz) q)
end
end Vf
namespace Vf
open PySem L2 PyProof.Rows PySem.Spec
/-! ## operations by the kinds of what they get -/
section
variable {X : Cx}
def rAddA (K : PySem.W.Frag) : R2 := fun x y H Q => match x, y with
  | .int i, .int j => Q (.int (i + j)) H
  | .str a, .str b => a.length + b.length ≤ sizeLine ∧ Q (.str (a ++ b)) H
  | .ref l, .ref b => (∃ xs zs, H l = some (.lst xs) ∧ H b = some (.lst zs) ∧ xs.length + zs.length ≤ sizeLine ∧ ∀ p, H p = none → Q (.ref p) (upd H p (.lst (xs ++ zs)))) ∨ rCatA K x y H Q
  | _, _ => False
theorem opAdd : OpR X (binaryOp .Add) (rAddA X.K) := by
  intro pins s σ H x y v u Q I rx ry h
  match x, y, h with
  | .int i, .int j, h => exact op_add pins s σ H _ _ v u Q I rx ry ⟨i, j, rfl, rfl, h⟩
  | .str a, .str b, h => exact op_add_str pins s σ H _ _ v u Q I rx ry ⟨a, b, rfl, rfl, h⟩
  | .ref l, .ref b, .inl ⟨xs, zs, h⟩ => exact op_cat pins s σ H _ _ v u Q I rx ry ⟨l, b, xs, zs, rfl, rfl, h⟩
  | .ref l, .ref b, .inr h => exact op_catA pins s σ H _ _ v u Q I rx ry h
/-- s * n of a text -/
def repS (x : Str) (n : Nat) : Str := ⟨(List.replicate n x.cps).foldl (· ++ ·) #[]⟩
theorem fold_cat (c : Array Nat) : ∀ (n : Nat) (a : Array Nat), ((List.replicate n c).foldl (· ++ ·) a).toList = a.toList ++ (List.replicate n c.toList).flatten
  | 0, a => by simp
  | n + 1, a => by
    rw [List.replicate_succ, List.foldl_cons, fold_cat c n, List.replicate_succ, List.flatten_cons]
    simp
theorem repS_list (x : Str) (n : Nat) : (repS x n).cps.toList = (List.replicate n x.cps.toList).flatten := by
  unfold repS
  rw [fold_cat]
  rfl
theorem repS_len (x : Str) (n : Nat) : (repS x n).length = n * x.length := by
  have h : (repS x n).cps.toList.length = n * x.cps.toList.length := by
    rw [repS_list]
    simp
  show (repS x n).cps.size = n * x.cps.size
  simpa using h
def rMulA : R2 := fun x y H Q => match x, y with
  | .int i, .int j => CMul i j ∧ Q (.int (i * j)) H
  | .str a, .int n => 2 ≤ n ∧ n ≤ 1000 ∧ a.length ≠ 0 ∧ a.length ≤ 1000 ∧ Q (.str (repS a n.toNat)) H
  | .ref l, .int k => ∃ xs, H l = some (.lst xs) ∧ -(2 ^ 63) ≤ k ∧ k < 2 ^ 63 ∧ xs.length * k.toNat ≤ sizeLine ∧ ∀ p, H p = none → Q (.ref p) (upd H p (.lst (List.replicate k.toNat xs).flatten))
  | _, _ => False
theorem opMul : OpR X (binaryOp .Mult) rMulA := by
  intro pins s σ H x y v u Q I rx ry h
  match x, y, h with
  | .int i, .int j, h => exact op_mul pins s σ H _ _ v u Q I rx ry ⟨i, j, rfl, rfl, h⟩
  | .ref l, .int k, ⟨xs, h⟩ => exact op_rep pins s σ H _ _ v u Q I rx ry ⟨l, k, xs, rfl, rfl, h⟩
  | .str a, .int n, ⟨n2, n1, a0, a1, q⟩ =>
    obtain ⟨t, rfl⟩ := rx
    obtain ⟨t', rfl⟩ := ry
    have e1 : ¬ n < 1 := by omega
    have e2 : (n == 1 || a.length == 0) = false := by
      rw [Bool.or_eq_false_iff, beq_eq_false_iff_ne, beq_eq_false_iff_ne]
      exact ⟨by omega, a0⟩
    have hs : a.length * n.toNat ≤ 1000 * 1000 := Nat.mul_le_mul a1 (by omega)
    refine PySem.P.mul_str ?_ (fun _ _ => ?_) (fun _ _ => ?_) ?_
    · rw [decide_eq_false (by omega), decide_eq_false (by omega)]; rfl
    · have : (a.length : Int) ≤ (2 ^ 63 - 1) / n := by
        rw [Int.le_ediv_iff_mul_le (by omega)]
        have : ((a.length * n.toNat : Nat) : Int) ≤ 1000 * 1000 := by exact_mod_cast hs
        rw [Int.natCast_mul, Int.toNat_of_nonneg (by omega)] at this
        omega
      omega
    · have := sizeLine_eq
      unfold Builtin.Str.tooLong
      simp
      omega
    · rw [if_neg e1, e2]
      refine ⟨?_, ⟨.str (repS a n.toNat), H, I.tok _, ⟨_, rfl⟩, q⟩⟩
      have e3 := repS_len a n.toNat
      have e4 := sizeLine_eq
      have e5 : n.toNat * a.length ≤ 1000 * 1000 := by rw [Nat.mul_comm]; exact hs
      show (repS a n.toNat).length ≤ sizeLine
      omega
def rEqA (K : PySem.W.Frag) (neg : Bool) : R2 := fun x y H Q => match x, y with
  | .ref a, .ref b => ∃ d e, Dp K H (.ref a) d ∧ Dp K H (.ref b) e ∧ SeqAt.shaped d = true ∧ SeqAt.shaped e = true ∧ Q (.bl (neg ^^ PyData.eqv d e)) H
  | x, y => scal x y = true ∧ Q (.bl (neg ^^ decide (x = y))) H
theorem opEq (hu : X.A.units + 64 < cLine) : OpR X (compareOp .Eq) (rEqA X.K false) := by
  intro pins s σ H x y v u Q I rx ry h
  have sc : scal x y = true → Q (.bl (false ^^ decide (x = y))) H → wpAny (model X.prog X.w) X.A (compareOp .Eq v u) (EP X pins σ Q) X.xe s := fun h1 h2 =>
    op_eq pins s σ H x y v u Q I rx ry ⟨h1, by simpa using h2⟩
  cases x <;> cases y <;> first
    | exact sc h.1 h.2
    | (obtain ⟨d, e, hd, he, sd, se, q⟩ := h; exact op_eqD hu pins s σ H _ _ v u Q I rx ry ⟨d, e, hd, he, sd, se, by simpa using q⟩)
theorem opNe (hu : X.A.units + 64 < cLine) : OpR X (compareOp .NotEq) (rEqA X.K true) := by
  intro pins s σ H x y v u Q I rx ry h
  have sc : scal x y = true → Q (.bl (true ^^ decide (x = y))) H → wpAny (model X.prog X.w) X.A (compareOp .NotEq v u) (EP X pins σ Q) X.xe s := fun h1 h2 =>
    op_ne pins s σ H x y v u Q I rx ry ⟨h1, by simpa using h2⟩
  cases x <;> cases y <;> first
    | exact sc h.1 h.2
    | (obtain ⟨d, e, hd, he, sd, se, q⟩ := h; exact op_neD hu pins s σ H _ _ v u Q I rx ry ⟨d, e, hd, he, sd, se, by simpa using q⟩)
/-- one sign in a text; a flat thing in a list or tuple of flat things -/
def rInA (K : PySem.W.Frag) (neg : Bool) : R2 := fun x y H Q => match x, y with
  | .str c, .str z => ∃ a, c = ⟨#[a]⟩ ∧ Q (.bl (neg ^^ decide (a ∈ z.cps.toList))) H
  | x, .ref p => ∃ xs, (SqL K H p xs ∨ SqT K H p xs) ∧ flatV x = true ∧ xs.all flatV = true ∧ Q (.bl (neg ^^ inV x xs)) H
  | _, _ => False
theorem opIn : OpR X (compareOp .In) (rInA X.K false) := by
  intro pins s σ H x y v u Q I rx ry h
  have sc : ∀ p xs, y = .ref p → (SqL X.K H p xs ∨ SqT X.K H p xs) → flatV x = true → xs.all flatV = true → Q (.bl (false ^^ inV x xs)) H → wpAny (model X.prog X.w) X.A (compareOp .In v u) (EP X pins σ Q) X.xe s := fun p xs e h1 h2 h3 h4 =>
    op_in_seq pins s σ H x y v u Q I rx ry ⟨p, xs, e, h1, h2, h3, by simpa using h4⟩
  cases y with
  | ref p =>
    have h' : ∃ xs, (SqL X.K H p xs ∨ SqT X.K H p xs) ∧ flatV x = true ∧ xs.all flatV = true ∧ Q (.bl (false ^^ inV x xs)) H := by cases x <;> exact h
    obtain ⟨xs, h1, h2, h3, h4⟩ := h'
    exact sc p xs rfl h1 h2 h3 h4
  | str z =>
    cases x with
    | str c =>
      obtain ⟨a, rfl, q⟩ := h
      exact op_in_sign pins s σ H _ _ v u Q I rx ry ⟨a, z, rfl, rfl, by simpa using q⟩
    | _ => exact False.elim h
  | _ => exact False.elim (by cases x <;> exact h)
theorem opNotIn : OpR X (compareOp .NotIn) (rInA X.K true) := by
  intro pins s σ H x y v u Q I rx ry h
  have sc : ∀ p xs, y = .ref p → (SqL X.K H p xs ∨ SqT X.K H p xs) → flatV x = true → xs.all flatV = true → Q (.bl (true ^^ inV x xs)) H → wpAny (model X.prog X.w) X.A (compareOp .NotIn v u) (EP X pins σ Q) X.xe s := fun p xs e h1 h2 h3 h4 =>
    op_notIn_seq pins s σ H x y v u Q I rx ry ⟨p, xs, e, h1, h2, h3, by simpa using h4⟩
  cases y with
  | ref p =>
    have h' : ∃ xs, (SqL X.K H p xs ∨ SqT X.K H p xs) ∧ flatV x = true ∧ xs.all flatV = true ∧ Q (.bl (true ^^ inV x xs)) H := by cases x <;> exact h
    obtain ⟨xs, h1, h2, h3, h4⟩ := h'
    exact sc p xs rfl h1 h2 h3 h4
  | str z =>
    cases x with
    | str c =>
      obtain ⟨a, rfl, q⟩ := h
      exact op_notIn_sign pins s σ H _ _ v u Q I rx ry ⟨a, z, rfl, rfl, by simpa using q⟩
    | _ => exact False.elim h
  | _ => exact False.elim (by cases x <;> exact h)
/-- a cut of a text, a list, a tuple -/
def rSlAny (K : PySem.W.Frag) : V → Option Int → Option Int → Hp → VK → Prop := fun x lo hi H Q => match x with
  | .str z => z.length ≤ sizeLine ∧ Q (.str (cutS z lo hi)) H
  | .ref a => (∃ xs, SqL K H a xs ∧ ∀ p, H p = none → Q (.ref p) (upd H p (.lst (cutV xs lo hi)))) ∨ rSlA K (.ref a) lo hi H Q
  | _ => False
theorem slAny : SlR X (rSlAny X.K) := by
  intro pins s σ H x v vl vu lo hi sl Q I rx hs pl pu q
  match x, q with
  | .str z, q => exact sl_str pins s σ H _ v vl vu lo hi sl Q I rx hs pl pu ⟨z, rfl, q⟩
  | .ref a, .inl ⟨xs, q⟩ => exact sl_list pins s σ H _ v vl vu lo hi sl Q I rx hs pl pu ⟨a, xs, rfl, q⟩
  | .ref a, .inr q => exact sl_tupA pins s σ H _ v vl vu lo hi sl Q I rx hs pl pu q
/-- what a for walks: a list, a tuple, a text -/
def iAny (K : PySem.W.Frag) (te : TE) : TI := fun σ H R => te σ H fun v H1 => match v with
  | .str x => R (Its x) H1
  | .ref a => ((∃ xs, SqL K H1 a xs) ∧ R (Itl K a) H1) ∨ ((∃ xs, SqT K H1 a xs) ∧ R (Itt K a) H1)
  | _ => False
theorem piAny {tg e : Expr} {te : TE} (he : PE X e te) : PI X tg e (iAny X.K te) := by
  refine ⟨fun pins s σ H R I h => thn (he.run pins s σ H _ I h) fun v s1 ⟨x, H1, I1, rx, q⟩ => ?_⟩
  match x, q with
  | .str y, q =>
    obtain ⟨t, rfl⟩ := rx
    cases ha : y.cps.all (· < 128)
    · exact wpAny_pyIter_wide ha (pi_one (tk := s1.toks) I1 _ (turn_str _ y t _ (.inr rfl)) ⟨_, Heap.get?_push_size _ rfl, rfl, rfl⟩ q)
    · exact wpAny_pyIter_ascii ha (pi_one (tk := s1.toks) I1 _ (turn_str _ y t _ (.inl rfl)) ⟨_, Heap.get?_push_size _ rfl, rfl, rfl⟩ q)
  | .ref a, .inl ⟨⟨xs, hq⟩, q⟩ =>
    cases rx
    obtain ⟨its, rv, p, hz⟩ := I1.list hq
    exact wpAny_pyIter_list p.isList (pi_one (tk := s1.toks) I1 _ (turn_list a _) ⟨_, Heap.get?_push_size _ rfl, rfl, rfl⟩ q)
  | .ref a, .inr ⟨⟨xs, hq⟩, q⟩ =>
    cases rx
    obtain ⟨its, rv, p, hz⟩ := I1.tuple hq
    exact wpAny_pyIter_tuple (show s1.heap.IsTuple a its.toArray from p) (pi_one (tk := s1.toks) I1 _ (turn_tuple a _) ⟨_, Heap.get?_push_size _ rfl, rfl, rfl⟩ q)
/-! ### the same, the written part named -/
section
variable {K : PySem.W.Frag}
theorem aAdd (e : X.K = K) : OpR X (binaryOp .Add) (rAddA K) := e ▸ opAdd
theorem aEq (e : X.K = K) (hu : X.A.units + 64 < cLine) : OpR X (compareOp .Eq) (rEqA K false) := e ▸ opEq hu
theorem aNe (e : X.K = K) (hu : X.A.units + 64 < cLine) : OpR X (compareOp .NotEq) (rEqA K true) := e ▸ opNe hu
theorem aIn (e : X.K = K) : OpR X (compareOp .In) (rInA K false) := e ▸ opIn
theorem aNotIn (e : X.K = K) : OpR X (compareOp .NotIn) (rInA K true) := e ▸ opNotIn
theorem aIxL (e : X.K = K) : IxR X (rIxL K) := e ▸ ix_list
theorem aIxT (e : X.K = K) : IxR X (rIxT K) := e ▸ ix_tup
theorem aWalkL (e : X.K = K) {tg l : Expr} {te : TE} (he : PE X l te) : PI X tg l (iList K te) := e ▸ pi_list he
theorem aWalkT (e : X.K = K) {tg l : Expr} {te : TE} (he : PE X l te) : PI X tg l (iTup K te) := e ▸ pi_tup he
theorem aInSeq (e : X.K = K) : OpR X (compareOp .In) (rIn K false) := e ▸ op_in_seq
theorem aNotInSeq (e : X.K = K) : OpR X (compareOp .NotIn) (rIn K true) := e ▸ op_notIn_seq
theorem aEqD (e : X.K = K) (hu : X.A.units + 64 < cLine) : OpR X (compareOp .Eq) (rEqD K) := e ▸ op_eqD hu
theorem aNeD (e : X.K = K) (hu : X.A.units + 64 < cLine) : OpR X (compareOp .NotEq) (rNeD K) := e ▸ op_neD hu
theorem aCatT (e : X.K = K) : OpR X (binaryOp .Add) (rCatA K) := e ▸ op_catA
theorem aSlL (e : X.K = K) : SlR X (rSlL K) := e ▸ sl_list
theorem aSlT (e : X.K = K) : SlR X (rSlA K) := e ▸ sl_tupA
def rLenSeq (K : PySem.W.Frag) : List V → Hp → VK → Prop := fun xs H Q => ∃ p ys, xs = [.ref p] ∧ (SqL K H p ys ∨ SqT K H p ys) ∧ Q (.int ys.length) H
theorem aLenSeq (e : X.K = K) : CallR X (.builtin "len") (rLenSeq K) := e ▸ call_len_seq
def rLenS : List V → Hp → VK → Prop := fun xs H Q => ∃ z : Str, xs = [.str z] ∧ z.length ≤ sizeLine ∧ Q (.int z.length) H
theorem aLenS : CallR X (.builtin "len") rLenS := fun pins s σ H xs us Q I r ⟨z, e, h1, h2⟩ => call_len pins s σ H xs us Q I r ⟨.str z, z.length, e, ⟨h1, rfl⟩, h2⟩
def rMulS : R2 := fun x y H Q => ∃ (a : Str) (n : Int), x = .str a ∧ y = .int n ∧ 2 ≤ n ∧ n ≤ 1000 ∧ a.length ≠ 0 ∧ a.length ≤ 1000 ∧ Q (.str (repS a n.toNat)) H
theorem aMulS : OpR X (binaryOp .Mult) rMulS := fun pins s σ H x y v u Q I rx ry ⟨a, n, ex, ey, h⟩ => by
  subst ex ey
  exact opMul pins s σ H _ _ v u Q I rx ry h
theorem aRev (h : X.K = K) {e : Expr} {te : TE} {k : Nat} {p1 p2 p3 pos : Pos} (he : PE X e te) : PE X (.Subscript e (.Slice none none (some (.UnaryOp .USub (.Constant (.int 1) k p1) p2)) p3) pos) (tRevL K te) := h ▸ pe_revL he
theorem aSl (e : X.K = K) : SlR X (rSlAny K) := e ▸ slAny
theorem aIx (e : X.K = K) : IxR X (rIx K) := e ▸ ix_seq
theorem aWalk (e : X.K = K) {tg l : Expr} {te : TE} (he : PE X l te) : PI X tg l (iAny K te) := e ▸ piAny he
def rLen (K : PySem.W.Frag) : List V → Hp → VK → Prop := fun xs H Q => ∃ x n, xs = [x] ∧ LenV K x H n ∧ Q (.int n) H
theorem aLen (e : X.K = K) : CallR X (.builtin "len") (rLen K) := e ▸ call_len
theorem aIsi (e : X.K = K) : CallR X (.builtin "isinstance") (rIsi K) := e ▸ call_isi
theorem aAll (e : X.K = K) (hc : X.calm = true) : CallR X (.builtin "all") (rAll K) := e ▸ cr_all hc
theorem aAny (e : X.K = K) (hc : X.calm = true) : CallR X (.builtin "any") (rAny K) := e ▸ cr_any hc
theorem aSum (e : X.K = K) (hc : X.calm = true) : CallR X (.builtin "sum") (rSum K) := e ▸ cr_sum hc
def rList (K : PySem.W.Frag) : List V → Hp → VK → Prop := fun xs H Q => ∃ p ys, xs = [.ref p] ∧ (SqL K H p ys ∨ SqT K H p ys) ∧ ∀ l, H l = none → Q (.ref l) (upd H l (.lst ys))
theorem aList (e : X.K = K) : CallR X (.type "list") (rList K) := e ▸ call_list_of
def rTuple (K : PySem.W.Frag) : List V → Hp → VK → Prop := fun xs H Q => ∃ p ys, xs = [.ref p] ∧ ((SqL K H p ys ∧ ∀ l, H l = none → Q (.ref l) (upd H l (.tup ys))) ∨ (SqT K H p ys ∧ Q (.ref p) H))
theorem aTuple (e : X.K = K) : CallR X (.type "tuple") (rTuple K) := e ▸ call_tuple_of
end
end
end Vf
namespace Vf
open PySem L2 PyProof.Rows PySem.Spec
/-! ## the end: the law's def, called where no repr is under way -/
def spLaw (K : PySem.W.Frag) : Sp := fun vs H Q _ => ∃ (a : Addr) (ns : List Int), vs = [.ref a] ∧ SqL K H a (ns.map V.int) ∧ ns.length ≤ 63 ∧ ∀ H', Q (.bl true) H'
section
variable {P : Program} {w : World} {K : PySem.W.Frag} {mg mb : Str → Option Value} {k : Nat} {fa a : Addr} {fd : FuncData} {x : Str} {s₁ : Shared} {vs : List Value} {ns : List Int}
/-- over one abstract heap, in which the script alone may be tracked -/
theorem law_one {H : Hp} (KX : K.In s₁.heap) (glob : s₁.heap.Ns mainGlobals mg) (blt : s₁.heap.Ns builtinsNs mb) (boot : ∀ x : Str, x ≠ "__name__" → mb x = bootBuiltins x) (lim : s₁.heap.NoLimit) (gens : s₁.gens = #[])
    (here : s₁.heap.get? a = some { cls := .type "list", data := .seq vs.toArray }) (room : Room k callerA) (F : ∀ base : Heap, K.In base → base.Ns mainGlobals mg → FnG P w K mg base CX0 k fa fd [x] (spLaw K))
    (bind : ∀ (s : Shared) (u : Value), BindsTo s fd ⟨[u], []⟩ [(x, u)]) (sq : SqL K H a (ns.map V.int)) (short : ns.length ≤ 63) (hok : HOk P w H s₁.heap) (only : ∀ b u, H b = some u → b = a ∧ K.lookup a = none ∧ ∃ xs, u = .frz { cls := .type "list", data := .seq vs.toArray } (.lst xs)) :
    codeAny (model P w) callerA (.call (.ref fa) ⟨[.ref a], []⟩) (fun r s' => r = .ok (.ret (.bool true)) ∧ OldK s₁.heap s'.heap ∧ s'.os = s₁.os ∧ AllBare s'.gens) s₁ := by
  have clear : ∀ {b : Addr} {o : Obj} {es : Array DictEntry} {ep : Nat}, s₁.heap.get? b = some o → o.data = .dict es ep → H b = none := by
    intro b o es ep e d
    cases q : H b with
    | none => rfl
    | some u =>
      obtain ⟨rfl, -⟩ := only b u q
      rw [here] at e
      cases e
      cases d
  have space : ∀ {b : Addr} {m : Str → Option Value}, s₁.heap.Ns b m → (hidT s₁.heap H).Ns b m := by
    rintro b m ⟨o, es, ep, e, d, r⟩
    exact ⟨o, es, ep, hidT_get e (clear e d), d, r⟩
  have frag : K.In (hidT s₁.heap H) := by
    intro b o e
    refine hidT_get (KX b o e) ?_
    cases q : H b with
    | none => rfl
    | some u =>
      obtain ⟨rfl, no, -⟩ := only b u q
      rw [no] at e
      cases e
  obtain ⟨mc, l1, l2⟩ := lim
  have env : Env0 P w K mg (hidT s₁.heap H) callerA [] s₁ H :=
    { frames := rfl, mod := ⟨frag, space glob, ⟨mb, space blt, boot⟩, ⟨mc, space l1, l2⟩⟩, bs := fun b o e => of_hidT e, bsz := Nat.le_of_eq (hidT_size _ _), funs := trivial, frf := fun b z => (List.not_mem_nil z).elim, hok := hok, bare := .of_eq gens }
  refine codeAny_mono ((F _ frag (space glob)).go callerA [] s₁ H ⟨[.ref a], []⟩ [.ref a] [.ref a] (fun v _ => v = .bl true) E0 rfl room env (bind s₁ (.ref a)) (.cons rfl .nil) ⟨a, ns, rfl, sq, short, fun _ => rfl⟩) fun r s' h => ?_
  rcases r with _ | fl
  · exact h.elim
  · cases fl with
    | next => exact h.elim
    | brk => exact h.elim
    | cont => exact h.elim
    | ret u =>
      obtain ⟨v, H', os, bare, un, hok', rv, ev⟩ := h
      cases ev
      cases rv
      refine ⟨rfl, .of_keep fun b o e => ?_, os, bare⟩
      cases q : H b with
      | none => exact un.keep b o e q (fun z => (List.not_mem_nil z).elim) (fun z => (List.not_mem_nil z).elim)
      | some u =>
        obtain ⟨rfl, -, xs, rfl⟩ := only b u q
        rw [here] at e
        cases e
        exact (hok' b _ (un.frzs b _ _ q)).1
theorem law_callG (KX : K.In s₁.heap) (glob : s₁.heap.Ns mainGlobals mg) (blt : s₁.heap.Ns builtinsNs mb) (boot : ∀ x : Str, x ≠ "__name__" → mb x = bootBuiltins x) (lim : s₁.heap.NoLimit) (gens : s₁.gens = #[])
    (here : s₁.heap.get? a = some { cls := .type "list", data := .seq vs.toArray }) (whole : IntsAre vs ns) (short : ns.length ≤ 63) (room : Room k callerA) (F : ∀ base : Heap, K.In base → base.Ns mainGlobals mg → FnG P w K mg base CX0 k fa fd [x] (spLaw K))
    (bind : ∀ (s : Shared) (u : Value), BindsTo s fd ⟨[u], []⟩ [(x, u)]) :
    codeAny (model P w) callerA (.call (.ref fa) ⟨[.ref a], []⟩) (fun r s' => r = .ok (.ret (.bool true)) ∧ OldK s₁.heap s'.heap ∧ s'.os = s₁.os ∧ AllBare s'.gens) s₁ := by
  have small : ns.length ≤ sizeLine := by
    rw [sizeLine_eq]
    omega
  have same := whole.length
  cases q : K.lookup a with
  | some o =>
    have e := KX a o q
    rw [here] at e
    cases e
    exact law_one (H := fun _ => none) KX glob blt boot lim gens here room F bind (.inr ⟨_, vs.toArray, _, q, rfl, rfl, rfl, by rw [List.size_toArray, same]; exact small, by simpa using vals_ints whole⟩) short (fun b u z => nomatch z) (fun b u z => nomatch z)
  | none =>
    let H : Hp := upd (fun _ => none) a (.frz { cls := .type "list", data := .seq vs.toArray } (.lst (ns.map V.int)))
    have only : ∀ b u, H b = some u → b = a ∧ u = .frz { cls := .type "list", data := .seq vs.toArray } (.lst (ns.map V.int)) := by
      intro b u z
      by_cases e : b = a
      · subst e
        exact ⟨rfl, (Option.some.inj (upd_same.symm.trans z)).symm⟩
      · have z' := (upd_ne (H := fun _ => none) (o := .frz { cls := .type "list", data := .seq vs.toArray } (.lst (ns.map V.int))) e).symm.trans z
        cases z'
    refine law_one (H := H) KX glob blt boot lim gens here room F bind (.inl (.inr ⟨_, upd_same⟩)) short (fun b u z => ?_) (fun b u z => ?_)
    · obtain ⟨rfl, rfl⟩ := only b u z
      exact ⟨here, by rw [List.length_map]; exact small, vs, _, vals_ints whole, here⟩
    · obtain ⟨rfl, rfl⟩ := only b u z
      exact ⟨rfl, q, _, rfl⟩
end
theorem walk_ofG {l : PySem.W.OpenLaw} {k : Nat} {q : Program} {loose : List Str} {XP : (Str → Option Value) → Heap → Prop} {YP : World → Heap → Prop} {d : DefRec} {K : Params → PySem.W.Frag} {x : Str}
    (most : l.most = some 63) (plain : d.params.defaults = []) (room : Room k callerA) (hY : ∀ (w : World) (h : Heap), YP w h → (K w.params).In h)
    (F : ∀ (w : World) (mg : Str → Option Value) (fa : Addr) (h : Heap), (K w.params).In h → h.Ns mainGlobals mg → mg d.name = some (.ref fa) →
      ∃ fd : FuncData, (∀ (s : Shared) (u : Value), BindsTo s fd ⟨[u], []⟩ [(x, u)]) ∧ ∀ base : Heap, (K w.params).In base → base.Ns mainGlobals mg → FnG l.prog w (K w.params) mg base CX0 k fa fd [x] (spLaw (K w.params))) :
    PySem.W.WalkO q loose XP YP l.row.toRowW d [] (fun f vs => PySem.call f vs) := by
  refine Att.attach_call most plain fun w s₀ s₁ mg mb fa o pm cd doc a vs ns G Y ho hd hcd hmg here whole short gens => ?_
  obtain ⟨fd, bind, hF⟩ := F w mg fa _ (hY w _ Y) G.T.g hmg
  exact law_callG (hY w _ Y) G.T.g G.T.b G.T.builtins G.T.nolimit gens here whole short room hF bind
end Vf
namespace Vf
open PySem L2 PyProof.Rows PySem.Spec
/-! ## walks over known items -/
structure Steps (J : It) (xs : List V) (G : Hp → Prop) : Prop where
  stop : ∀ H, G H → J.stop xs.length H
  go : ∀ i H, i < xs.length → G H → J.go i H
  yld : ∀ i H x H', i < xs.length → G H → J.yld i H x H' → xs[i]? = some x ∧ H' = H
theorem steps_list (K : PySem.W.Frag) (a : Addr) (xs : List V) : Steps (Itl K a) xs (fun H => SqL K H a xs) where
  stop := fun H g => ⟨xs, g, Nat.le_refl _⟩
  go := fun i H h g => ⟨xs, xs[i], g, by simp [h]⟩
  yld := fun i H x H' h g y => by
    obtain ⟨e, f⟩ := y
    exact ⟨f xs g, e⟩
theorem steps_tup (K : PySem.W.Frag) (a : Addr) (xs : List V) : Steps (Itt K a) xs (fun H => SqT K H a xs) where
  stop := fun H g => ⟨xs, g, Nat.le_refl _⟩
  go := fun i H h g => ⟨xs, xs[i], g, by simp [h]⟩
  yld := fun i H x H' h g y => by
    obtain ⟨e, f⟩ := y
    exact ⟨f xs g, e⟩
def signs (z : Str) : List V := z.cps.toList.map fun c => .str ⟨#[c]⟩
theorem signs_len (z : Str) : (signs z).length = z.cps.size := by simp [signs]
theorem steps_str (z : Str) : Steps (Its z) (signs z) (fun _ => True) where
  stop := fun H g => by
    show z.cps.size ≤ _
    rw [signs_len]
    exact Nat.le_refl _
  go := fun i H h g => by
    rw [signs_len] at h
    exact h
  yld := fun i H x H' h g y => by
    obtain ⟨e, c, hc, rfl⟩ := y
    refine ⟨?_, e⟩
    unfold signs
    rw [List.getElem?_map, Array.getElem?_toList, hc]
    rfl
def wholes (lo : Int) (n : Nat) : List V := (List.range n).map fun i => .int (lo + (i : Nat))
theorem wholes_len (lo : Int) (n : Nat) : (wholes lo n).length = n := by simp [wholes]
theorem steps_range (lo : Int) (n : Nat) : Steps (Itr lo n) (wholes lo n) (fun _ => True) where
  stop := fun H g => by
    show n ≤ _
    rw [wholes_len]
    exact Nat.le_refl _
  go := fun i H h g => by
    rw [wholes_len] at h
    exact h
  yld := fun i H x H' h g y => by
    rw [wholes_len] at h
    obtain ⟨e, rfl⟩ := y
    refine ⟨?_, e⟩
    unfold wholes
    rw [List.getElem?_map, List.getElem?_range h]
    rfl
section
variable {J : It} {xs : List V} {G : Hp → Prop} {D : Ends} {σ : L2.St} {H : Hp} {tb : TS} {g : TG}
/-- a for over known items -/
theorem for_steps (S : Steps J xs G) (Pv : Nat → L2.St → Hp → Prop) (h0 : Pv 0 σ H) (hl : ∀ i σ H, i ≤ xs.length → Pv i σ H → G H)
    (hs : ∀ i x σ H, xs[i]? = some x → Pv i σ H → g x σ H fun σ2 H2 => tb { D with nx := Pv (i + 1), ct := Pv (i + 1), bk := D.nx } σ2 H2) (hd : ∀ σ H, Pv xs.length σ H → D.nx σ H) :
    ∃ W : Nat → Nat → L2.St → Hp → Prop, (∃ m, W 0 m σ H) ∧ ∀ i m σ H, W i m σ H → (J.stop i H ∧ D.nx σ H) ∨
      (J.go i H ∧ ∃ N : L2.St → Hp → Prop, (∀ σ' H', N σ' H' → ∃ m', m' < m ∧ W (i + 1) m' σ' H') ∧ ∀ x H', J.yld i H x H' → g x σ H' fun σ2 H2 => tb { D with nx := N, ct := N, bk := D.nx } σ2 H2) := by
  refine ⟨fun i m σ H => i + m = xs.length ∧ Pv i σ H, ⟨xs.length, Nat.zero_add _, h0⟩, ?_⟩
  rintro i m σ H ⟨em, p⟩
  have gH := hl i σ H (by omega) p
  cases m with
  | zero =>
    have e : i = xs.length := by omega
    subst e
    exact .inl ⟨S.stop H gH, hd σ H p⟩
  | succ m =>
    have hi : i < xs.length := by omega
    refine .inr ⟨S.go i H hi gH, Pv (i + 1), fun σ' H' p' => ⟨m, Nat.lt_succ_self _, by omega, p'⟩, fun x H' y => ?_⟩
    obtain ⟨ex, rfl⟩ := S.yld i H x H' hi gH y
    exact hs i x σ _ ex p
variable {j : Nat} {tt : TT} {te : TE} {vs : List Nat} {L : Addr} {Qd : Hp → Prop}
/-- a comprehension over known items -/
theorem lc_steps (S : Steps J xs G) (Pv : Nat → Hp → Prop) (h0 : Pv 0 (upd H L (.lst []))) (hl : ∀ i H, i ≤ xs.length → Pv i H → G H)
    (hs : ∀ i x H, xs[i]? = some x → Pv i H → g x (wipe σ vs) H fun σ2 H2 => wipe σ2 vs = wipe σ vs ∧ tt σ2 H2 fun b H3 =>
      if b = true then te σ2 H3 fun y H4 => ∃ acc, H4 L = some (.lst acc) ∧ acc.length < sizeLine ∧ Pv (i + 1) (upd H4 L (.lst (acc ++ [y]))) else Pv (i + 1) H3) (hd : ∀ H, Pv xs.length H → Qd H) :
    ∃ W : Nat → Nat → Hp → Prop, (∃ m, W 0 m (upd H L (.lst []))) ∧ ∀ i m H, W i m H → (J.stop i H ∧ Qd H) ∨
      (J.go i H ∧ ∃ Nx : Hp → Prop, (∀ H', Nx H' → ∃ m', m' < m ∧ W (i + 1) m' H') ∧ ∀ x H', J.yld i H x H' → g x (wipe σ vs) H' fun σ2 H2 => wipe σ2 vs = wipe σ vs ∧ tt σ2 H2 fun b H3 =>
        if b = true then te σ2 H3 fun y H4 => ∃ acc, H4 L = some (.lst acc) ∧ acc.length < sizeLine ∧ Nx (upd H4 L (.lst (acc ++ [y]))) else Nx H3) := by
  refine ⟨fun i m H => i + m = xs.length ∧ Pv i H, ⟨xs.length, Nat.zero_add _, h0⟩, ?_⟩
  rintro i m H ⟨em, p⟩
  have gH := hl i H (by omega) p
  cases m with
  | zero =>
    have e : i = xs.length := by omega
    subst e
    exact .inl ⟨S.stop H gH, hd H p⟩
  | succ m =>
    have hi : i < xs.length := by omega
    refine .inr ⟨S.go i H hi gH, Pv (i + 1), fun H' p' => ⟨m, Nat.lt_succ_self _, by omega, p'⟩, fun x H' y => ?_⟩
    obtain ⟨ex, rfl⟩ := S.yld i H x H' hi gH y
    exact hs i x _ ex p
/-- .. whose test and element change nothing -/
theorem lc_pure (S : Steps J xs G) (p : V → Bool) (f : V → V) (hG : ∀ acc, G (upd H L (.lst acc))) (hz : xs.length ≤ sizeLine) (hw : ∀ x, wipe ((wipe σ vs).set j (some x)) vs = wipe σ vs)
    (ht : ∀ x ∈ xs, ∀ (acc : List V) (R : Bool → Hp → Prop), R (p x) (upd H L (.lst acc)) → tt ((wipe σ vs).set j (some x)) (upd H L (.lst acc)) R)
    (he : ∀ x ∈ xs, p x = true → ∀ (acc : List V) (R : VK), R (f x) (upd H L (.lst acc)) → te ((wipe σ vs).set j (some x)) (upd H L (.lst acc)) R) (hd : Qd (upd H L (.lst ((xs.filter p).map f)))) :
    ∃ W : Nat → Nat → Hp → Prop, (∃ m, W 0 m (upd H L (.lst []))) ∧ ∀ i m H, W i m H → (J.stop i H ∧ Qd H) ∨
      (J.go i H ∧ ∃ Nx : Hp → Prop, (∀ H', Nx H' → ∃ m', m' < m ∧ W (i + 1) m' H') ∧ ∀ x H', J.yld i H x H' → gName j x (wipe σ vs) H' fun σ2 H2 => wipe σ2 vs = wipe σ vs ∧ tt σ2 H2 fun b H3 =>
        if b = true then te σ2 H3 fun y H4 => ∃ acc, H4 L = some (.lst acc) ∧ acc.length < sizeLine ∧ Nx (upd H4 L (.lst (acc ++ [y]))) else Nx H3) := by
  refine lc_steps S (fun i H' => H' = upd H L (.lst (((xs.take i).filter p).map f))) rfl (fun i H' _ e => e ▸ hG _) (fun i x H' hx e => ?_) (fun H' e => ?_)
  · subst e
    have hi : i < xs.length := (List.getElem?_eq_some_iff.mp hx).1
    have hm := List.mem_of_getElem? hx
    refine ⟨hw x, ht x hm _ _ ?_⟩
    have et : xs.take (i + 1) = xs.take i ++ [x] := by rw [List.take_add_one, hx]; rfl
    have hlen : (((xs.take i).filter p).map f).length < sizeLine := by
      rw [List.length_map]
      have h1 := List.length_filter_le p (xs.take i)
      rw [List.length_take] at h1
      omega
    cases hp : p x with
    | true =>
      rw [if_pos rfl]
      refine he x hm hp _ _ ⟨_, upd_same, hlen, ?_⟩
      rw [upd_upd, et, List.filter_append, List.map_append]
      simp [hp]
    | false =>
      rw [if_neg (by decide), et, List.filter_append, List.map_append]
      simp [hp]
  · subst e
    rw [List.take_length]
    exact hd
end
theorem same_upd {H : Hp} {p : Addr} {o : HO} (h : H p = none) : Same H (upd H p o) := fun b u e => by
  rw [upd_ne (ne_of_none e h)]
  exact e
theorem seqL_upd {K : PySem.W.Frag} {H : Hp} {p a : Addr} {o : HO} {xs : List V} (h : H p = none) (s : SqL K H a xs) : SqL K (upd H p o) a xs := (same_upd h).seq s
end Vf
namespace Vf
open PySem L2 PyProof.Rows PySem.Spec
/-! ## a text beside a dict; a thing of any kind in a row of texts -/
theorem str_dict_no (b : Str) (u : Tok) (l : Addr) (es : Array DictEntry) (n : Nat) (dd : Option Addr) (sl : Array (Option Value)) :
    Meets (Builtin.«str.__eq__» ⟨[.str b u, .ref l], []⟩) (fun _ R s => s.heap.get? l = some { cls := .type "dict", dict := dd, data := .dict es n, slots := sl } ∧ R (.ok (.ret .notImplemented)) s) :=
  .of_wp fun prog w A R s h => by
    obtain ⟨hp, g, d, tk, os⟩ := s
    obtain ⟨hl, h⟩ := h
    wp_walk using wpAny_load hl
    exact ⟨_, rfl, h⟩
theorem dict_str_no (b : Str) (u : Tok) (l : Addr) (es : Array DictEntry) (n : Nat) (dd : Option Addr) (sl : Array (Option Value)) :
    Meets (Builtin.«dict.__eq__» ⟨[.ref l, .str b u], []⟩) (fun _ R s => s.heap.get? l = some { cls := .type "dict", dict := dd, data := .dict es n, slots := sl } ∧ R (.ok (.ret .notImplemented)) s) :=
  .of_wp fun prog w A R s h => by
    obtain ⟨hp, g, d, tk, os⟩ := s
    obtain ⟨hl, h⟩ := h
    have f1 := F.sub_str_dict
    wp_walk using wpAny_load hl
    exact ⟨_, rfl, h⟩
theorem rc_str_dict {A : Around} {s : Shared} {l : Addr} {o : Obj} {es : Array DictEntry} {n : Nat} (b : Str) (u : Tok) (ho : s.heap.get? l = some o) (hc : o.cls = .type "dict") (hd : o.data = .dict es n) (hu : A.units < cLine) : SeqAt.RcAt A s (.str b u) (.ref l) false := fun prog w E Q h => by
  obtain ⟨cls, dd, data, sl⟩ := o
  simp only at hc hd
  subst hc hd
  exact SeqAt.rc_eq_decline_or (k := false) (typeIs_str s b u) ⟨_, ho, rfl⟩ (by decide) F.sub_dict_str F.slot_str_eq F.slot_dict_eq
    (fun _ z => call_meets F.slot_str_eq (typeIs_str s b u) F.entry_str_eq (F.args_str_eq_2 _ _) (str_dict_no b u l es n dd sl) ⟨ho, z⟩)
    (fun _ z => call_meets F.slot_dict_eq ⟨_, ho, rfl⟩ F.entry_dict_eq (F.args_dict_eq_2 _ _) (dict_str_no b u l es n dd sl) ⟨ho, z⟩)
    (fun _ z => wpAny_of_eq (rfl : isSame (.str b u) (.ref l) = pure false) z) (.inr hu) h
theorem eq_str_dict {A : Around} {s : Shared} {l : Addr} {o : Obj} {es : Array DictEntry} {n : Nat} (b : Str) (u : Tok) (ho : s.heap.get? l = some o) (hc : o.cls = .type "dict") (hd : o.data = .dict es n) (hu : A.units < cLine) : SeqAt.EqAt A s (.str b u) (.ref l) false := fun prog w E Q h => by
  unfold eqBool
  exact wpAny_holding (wpAny_ite_split (fun z => absurd (eq_of_beq z) nofun) fun _ => wpAny_bind (rc_str_dict b u ho hc hd hu prog w E _ (wpAny_truthy_bool h)))
/-- is it one of these texts -/
def among (l : List Str) (x : V) : Bool := match x with
  | .str s => decide (s ∈ l)
  | _ => false
/-- what it is: any data but a float, bytes, a class -/
def Thing (H : Hp) (x : V) : Prop := match x with
  | .non | .bl _ | .int _ | .str _ => True
  | .ref a => (∃ xs, H a = some (.lst xs)) ∨ (∃ xs, H a = some (.tup xs)) ∨ ∃ kvs, H a = some (.dK kvs)
  | _ => False
theorem Dv.thing {H : Hp} {x : V} {d : PyData} (h : Dv H x d) : Thing H x := by
  cases h with
  | lst e _ => exact .inl ⟨_, e⟩
  | tup e _ => exact .inr (.inl ⟨_, e⟩)
  | dic e _ => exact .inr (.inr ⟨_, e⟩)
  | _ => trivial
section
variable {X : Cx} {s : Shared} {H : Hp} {σ : L2.St} {pins : List (Addr × Obj)}
/-- is it this text -/
def isT (x : V) (b : Str) : Bool := match x with
  | .str y => b == y
  | _ => false
def isTv (x : V) (z : Value) : Bool := match z with
  | .str b _ => isT x b
  | _ => false
theorem eq_text (I : Inv X pins σ H s) {A : Around} (hu : A.units < cLine) {x : V} {v : Value} (rx : RelV x v) (t : Thing H x) (b : Str) (k : Tok) : SeqAt.EqAt A s (.str b k) v (isT x b) := by
  cases x with
  | non => cases rx; exact SeqAt.EqAt.str_none b k
  | bl c => cases rx; exact SeqAt.EqAt.str_bool b k c
  | int i =>
    obtain ⟨u, rfl⟩ := rx
    exact SeqAt.EqAt.str_int b k i u
  | str y =>
    obtain ⟨u, rfl⟩ := rx
    exact SeqAt.EqAt.str_str b k y u
  | ref a =>
    cases rx
    rcases t with ⟨xs, e⟩ | ⟨xs, e⟩ | ⟨kvs, e⟩
    · obtain ⟨its, r, p, z⟩ := I.list (SqL.of (K := X.K) e)
      exact SeqAt.EqAt.str_list b k p.isList hu
    · obtain ⟨its, r, p, z⟩ := I.tuple (SqT.of (K := X.K) e)
      exact SeqAt.EqAt.str_tuple b k p hu
    · obtain ⟨_, _, vs, kv, o, es, ep, ho, ⟨hc, _⟩, hd, _⟩ : ObjOk X.prog X.w H s.heap a (.dK kvs) := I.hok a _ e
      exact eq_str_dict b k ho hc hd hu
  | byt _ => exact t.elim
  | flt _ => exact t.elim
  | ty _ => exact t.elim
theorem str_of_vals : ∀ {l : List Str} {us : List Value} {z : Value}, Vals (l.map V.str) us → z ∈ us → ∃ b k, z = Value.str b k
  | [], _, _, .nil, h => absurd h List.not_mem_nil
  | b :: l, _, z, .cons r rs, h => by
    rcases List.mem_cons.mp h with e | h
    · obtain ⟨t, rfl⟩ := r
      exact ⟨b, t, e⟩
    · exact str_of_vals rs h
def rInT (K : PySem.W.Frag) (neg : Bool) : R2 := fun x y H Q => ∃ (p : Addr) (l : List Str), y = .ref p ∧ SqT K H p (l.map V.str) ∧ Thing H x ∧ Q (.bl (neg ^^ among l x)) H
theorem any_texts (x : V) (f : Value → Bool) (hf : ∀ b t, f (.str b t) = isT x b) : ∀ (l : List Str) (us : List Value), Vals (l.map V.str) us → us.any f = among l x
  | [], _, .nil => by
    unfold among
    cases x <;> simp
  | b :: l, _, .cons r rs => by
    obtain ⟨t, rfl⟩ := r
    rw [List.any_cons, any_texts x f hf l _ rs, hf]
    unfold among isT
    cases x with
    | str y =>
      by_cases e : b = y
      · subst e; simp
      · have e' : ¬ y = b := fun z => e z.symm
        simp [e, e']
    | _ => simp
theorem opInT (hu : X.A.units + 1 < cLine) : OpR X (compareOp .In) (rInT X.K false) := by
  intro pins s σ H x y v u Q I rx ry h
  obtain ⟨p, l, rfl, hs, t, q⟩ := h
  cases ry
  obtain ⟨its, r, pl, hz⟩ := I.tuple hs
  refine SeqAt.in_tupleAt (isTv x) pl (fun z hz' => ?_) ⟨.bl _, H, I, rfl, ?_⟩
  · obtain ⟨b, k, rfl⟩ : ∃ b k, z = Value.str b k := str_of_vals r (by simpa using hz')
    exact eq_text I (A := X.A.in1) hu rx t b k
  · have e : its.toArray.any (isTv x) = among l x := by
      rw [List.any_toArray]
      exact any_texts x (isTv x) (fun _ _ => rfl) l its r
    rw [e]
    simpa using q
theorem opNotInT (hu : X.A.units + 1 < cLine) : OpR X (compareOp .NotIn) (rInT X.K true) := by
  intro pins s σ H x y v u Q I rx ry h
  obtain ⟨p, l, rfl, hs, t, q⟩ := h
  cases ry
  obtain ⟨its, r, pl, hz⟩ := I.tuple hs
  refine SeqAt.notIn_tupleAt (isTv x) pl (fun z hz' => ?_) ⟨.bl _, H, I, rfl, ?_⟩
  · obtain ⟨b, k, rfl⟩ : ∃ b k, z = Value.str b k := str_of_vals r (by simpa using hz')
    exact eq_text I (A := X.A.in1) hu rx t b k
  · have e : its.toArray.any (isTv x) = among l x := by
      rw [List.any_toArray]
      exact any_texts x (isTv x) (fun _ _ => rfl) l its r
    rw [e]
    simpa using q
/-- a tuple beside an empty tuple -/
def rEqE (K : PySem.W.Frag) : R2 := fun x y H Q => ∃ (a b : Addr) (xs : List V), x = .ref a ∧ y = .ref b ∧ SqT K H a xs ∧ SqT K H b [] ∧ Q (.bl xs.isEmpty) H
theorem opEqE (hu : X.A.units < cLine) : OpR X (compareOp .Eq) (rEqE X.K) := by
  intro pins s σ H x y v u Q I rx ry h
  obtain ⟨a, b, xs, rfl, rfl, h1, h2, q⟩ := h
  cases rx
  cases ry
  obtain ⟨its, r, p, -⟩ := I.tuple h1
  obtain ⟨its2, r2, p2, -⟩ := I.tuple h2
  cases r2
  refine SeqAt.eq_tupleAt (e := fun _ => true) p p2 hu (fun j _ h2 => absurd h2 (Nat.not_lt_zero _)) ⟨.bl _, H, I, rfl, ?_⟩
  have e : ((List.range (min its.toArray.size ([] : List Value).toArray.size)).all (fun _ => true) && its.toArray.size == ([] : List Value).toArray.size) = xs.isEmpty := by
    have e0 : ((List.range (min its.toArray.size ([] : List Value).toArray.size)).all (fun _ => true)) = true := List.all_eq_true.mpr fun _ _ => rfl
    rw [e0, Bool.true_and]
    cases r with
    | nil => rfl
    | cons _ _ => rfl
  rw [e]
  exact q
variable {K : PySem.W.Frag}
theorem aInT (e : X.K = K) (hu : X.A.units + 64 < cLine) : OpR X (compareOp .In) (rInT K false) := e ▸ opInT (by omega)
theorem aNotInT (e : X.K = K) (hu : X.A.units + 64 < cLine) : OpR X (compareOp .NotIn) (rInT K true) := e ▸ opNotInT (by omega)
theorem aEqE (e : X.K = K) (hu : X.A.units + 64 < cLine) : OpR X (compareOp .Eq) (rEqE K) := e ▸ opEqE (by omega)
end
end Vf
namespace Vf
open PySem L2 PyProof.Rows PySem.Spec
/-! ## a list grown by a tuple; a written dict of the module -/
theorem extend_tuple (l : Addr) (items : Array Value) (n : Nat) (b : Addr) (items2 : Array Value) (n2 : Nat) (dd : Option Addr) (sl : Array (Option Value)) (hs0 : ¬(!items.isEmpty && Builtin.List.listTooLong (items.size + items2.size)) = true) (hs1 : items.size ≤ sizeLine) (hs2 : items.size + items2.size ≤ sizeLine + 1) :
    Meets (Builtin.«list.extend» ⟨[.ref l, .ref b], []⟩) (fun _ R s => s.heap.get? l = some { cls := .type "list", dict := none, data := .seq items n, slots := #[] } ∧ s.heap.get? b = some { cls := .type "tuple", dict := dd, data := .seq items2 n2, slots := sl } ∧ R (.ok (.ret Value.none)) { s with heap := s.heap.update l (Obj.mapSeq fun x => x ++ items2), toks := s.toks }) :=
  .of_wp fun prog w A R s h => by
    obtain ⟨hp, g, d, tk, os⟩ := s
    obtain ⟨hl, hb, h⟩ := h
    have f2 := F.sub_tuple_tuple
    have f3 := F.sub_list_list
    have f4 := F.sub_tuple_list
    have f5 := F.sub_list_tuple
    have hz' : (items ++ items2).size ≤ sizeLine + 1 := by rw [Array.size_append]; exact hs2
    wp_walk using (wpAny_updateSeq hl rfl (hz := hs1) (_hz' := hz')), wpAny_loadPart' hl, wpAny_loadPart' hb
    exact ⟨_, rfl, h⟩
section
variable {X : Cx}
def rExtendT (K : PySem.W.Frag) : V → List V → Hp → VK → Prop := fun x vs H Q => ∃ l b xs zs, x = .ref l ∧ vs = [.ref b] ∧ H l = some (.lst xs) ∧ SqT K H b zs ∧ xs.length + zs.length ≤ sizeLine ∧ Q .non (upd H l (.lst (xs ++ zs)))
theorem mt_extendT : MtM X "list.extend" (rExtendT X.K) := by
  intro pins s σ H x vs v us Q I rx rv h
  obtain ⟨l, b, xs, zs, rfl, rfl, hH, hB, hz, q⟩ := h
  cases rx
  obtain ⟨u, rfl, ru⟩ := rv.one
  cases ru
  obtain ⟨z, its, n, r, hl, e⟩ := I.lstM hH
  obtain ⟨its2, r2, p2, hz2⟩ := I.tuple hB
  obtain ⟨⟨cls, dd, data, sl⟩, e2, hc, n2, hd⟩ := p2
  simp only at hc hd
  subst hc hd
  have hl2 := r2.length
  have hsz : its.toArray.size + its2.toArray.size ≤ sizeLine := by rw [List.size_toArray, List.size_toArray]; omega
  have hlong : ¬ (!its.toArray.isEmpty && Builtin.List.listTooLong (its.toArray.size + its2.toArray.size)) = true := by
    rw [notLongL hsz, Bool.and_false]
    exact Bool.false_ne_true
  refine call_meets F.slot_list_extend ⟨_, e, rfl⟩ F.entry_list_extend (F.args_list_extend_2 _ _)
    (extend_tuple l its.toArray n b its2.toArray n2 dd sl hlong (by rw [List.size_toArray]; omega) (by omega)) ⟨e, e2, ?_⟩
  refine ⟨.non, _, I.lset (its' := its ++ its2) hH e (by simp) (r.append r2) ?_, rfl, q⟩
  rw [List.length_append]
  omega
theorem aExtendT {K : PySem.W.Frag} (e : X.K = K) : MtM X "list.extend" (rExtendT K) := e ▸ mt_extendT
/-- a text among the keys of a written dict of the module; f: what is at each -/
structure Cnt (K : PySem.W.Frag) (w : World) (d : Addr) (f : Str → Option Int) : Prop where
  ex : ∃ es n, KDict K w d es n
  at_ : ∀ z : Str, ∃ r : Option Value, PySem.W.nsIn K d z = some r ∧ RelO ((f z).map V.int) r
variable {K : PySem.W.Frag} {w : World} {d : Addr} {f : Str → Option Int}
def rInK (d : Addr) (f : Str → Option Int) (neg : Bool) : R2 := fun x y H Q => ∃ z : Str, x = .str z ∧ y = .ref d ∧ Q (.bl (neg ^^ (f z).isSome)) H
theorem relO_some {g : Option V} {r : Option Value} (h : RelO g r) : r.isSome = g.isSome := by
  cases g <;> cases r <;> first | rfl | exact h.elim
theorem aInK (D : Cnt X.K X.w d f) : OpR X (compareOp .In) (rInK d f false) := by
  obtain ⟨es, n, k⟩ := D.ex
  intro pins s σ H x y v u Q I rx ry ⟨z, ex, ey, q⟩
  obtain ⟨r, e, ro⟩ := D.at_ z
  refine op_in_kd k pins s σ H x y v u Q I rx ry ⟨z, r, ex, ey, e, ?_⟩
  rw [relO_some ro]
  simpa using q
theorem aNotInK (D : Cnt X.K X.w d f) : OpR X (compareOp .NotIn) (rInK d f true) := by
  obtain ⟨es, n, k⟩ := D.ex
  intro pins s σ H x y v u Q I rx ry ⟨z, ex, ey, q⟩
  obtain ⟨r, e, ro⟩ := D.at_ z
  refine op_notIn_kd k pins s σ H x y v u Q I rx ry ⟨z, r, ex, ey, e, ?_⟩
  rw [relO_some ro]
  simpa using q
def rIxK (d : Addr) (f : Str → Option Int) : R2 := fun x y H Q => ∃ (z : Str) (i : Int), x = .ref d ∧ y = .str z ∧ f z = some i ∧ Q (.int i) H
theorem aIxK (D : Cnt X.K X.w d f) : IxR X (rIxK d f) := by
  obtain ⟨es, n, k⟩ := D.ex
  intro value slice pins s σ H x y v u Q I rx ry ⟨z, i, ex, ey, ef, q⟩ hs
  obtain ⟨r, e, ro⟩ := D.at_ z
  rw [ef] at ro
  cases r with
  | none => exact ro.elim
  | some r => exact ix_kdict value slice pins s σ H x y v u Q I rx ry ⟨d, z, .int i, ex, ey, ⟨es, n, r, k.at_, k.lit, e, ro⟩, q⟩ hs
/-- a cut of a tuple, told in one way -/
def rSlU (K : PySem.W.Frag) : V → Option Int → Option Int → Hp → VK → Prop := fun x lo hi H Q => ∃ a xs, x = .ref a ∧ SqT K H a xs ∧ ∀ (p : Addr) (H' : Hp), Same H H' → SqT K H' p (cutV xs lo hi) → Q (.ref p) H'
theorem slU : SlR X (rSlU X.K) := by
  intro pins s σ H x v vl vu lo hi sl Q I rx hs pl pu h
  obtain ⟨a, xs, rfl, hx, q⟩ := h
  refine sl_tupA pins s σ H _ v vl vu lo hi sl Q I rx hs pl pu ⟨a, xs, rfl, hx, fun e => q a H (Same.refl H) ?_, fun _ p hp => q p _ (same_upd hp) (.of upd_same)⟩
  unfold cutV
  rw [e.1, e.2, List.drop_zero, Nat.sub_zero, List.take_of_length_le (Nat.le_refl _)]
  exact hx
theorem aSlU {K : PySem.W.Frag} (e : X.K = K) : SlR X (rSlU K) := e ▸ slU
def rCatU (K : PySem.W.Frag) : R2 := fun x y H Q => ∃ a b xs ys, x = .ref a ∧ y = .ref b ∧ SqT K H a xs ∧ SqT K H b ys ∧ xs.length + ys.length ≤ sizeLine ∧ ∀ (p : Addr) (H' : Hp), Same H H' → SqT K H' p (xs ++ ys) → Q (.ref p) H'
theorem opCatU : OpR X (binaryOp .Add) (rCatU X.K) := by
  intro pins s σ H x y v u Q I rx ry h
  obtain ⟨a, b, xs, ys, rfl, rfl, h1, h2, l, q⟩ := h
  refine op_catA pins s σ H _ _ v u Q I rx ry ⟨a, b, xs, ys, rfl, rfl, h1, h2, l, fun e => q b H (Same.refl H) ?_, fun _ e => q a H (Same.refl H) ?_, fun _ _ p hp => q p _ (same_upd hp) (.of upd_same)⟩
  · subst e
    exact h2
  · subst e
    rw [List.append_nil]
    exact h1
theorem aCatU {K : PySem.W.Frag} (e : X.K = K) : OpR X (binaryOp .Add) (rCatU K) := e ▸ opCatU
end
end Vf
namespace Vf
open PySem L2 PyProof.Rows PySem.Spec
/-! ## repr of data with dicts anywhere; the law's end, where it is known that the table of modules stands at its place -/
def SysAt (base : Heap) : Prop := ∃ o, base.get? sysModules = some o
section
variable {X : Cx} {s : Shared} {H : Hp} {σ : L2.St} {pins : List (Addr × Obj)}
def rReprS : List V → Hp → VK → Prop := fun xs H Q => ∃ x d, xs = [x] ∧ Dv H x d ∧ d.showable = true ∧ d.depth ≤ 60 ∧ d.shown.length ≤ sizeLine ∧ Q (.str d.shown) H
theorem call_reprS (hb : SysAt X.base) (hg : X.A.guards = some []) (hu : X.A.units + 64 < cLine) : CallR X (.builtin "repr") rReprS := by
  intro pins s σ H xs us Q I rr h
  obtain ⟨x, d, rfl, hd, hs, hp, hz, q⟩ := h
  obtain ⟨u, rfl, rx⟩ := vals1 rr
  have fin : ∀ (h' : Heap) (t k : Tok), (∀ b o, s.heap.get? b = some o → h'.get? b = some o) → EP X pins σ Q (.str d.shown t) { s with heap := h', toks := k } := fun h' t k kp =>
    ⟨.str d.shown, H, I.kept kp, ⟨t, rfl⟩, q⟩
  obtain ⟨as, rd, hm⟩ : ∃ as, Reads s.heap u d as ∧ (d.hasDict = true → sysModules ∉ as) := by
    obtain ⟨as, rd, h⟩ := Dv.read I hd u rx
    refine ⟨as, rd, fun _ m => h _ m ?_⟩
    obtain ⟨o, e⟩ := hb
    exact (I.bs _ _ e).2
  cases rd with
  | none =>
    simp only [PyData.shown] at fin
    exact PySem.P.repr_of_none (fin _ _ _ fun _ _ e => e)
  | bool b =>
    simp only [PyData.shown] at fin
    exact PySem.P.repr_of_bool (fin _ _ _ fun _ _ e => e)
  | int i t =>
    simp only [PyData.shown] at fin
    exact PySem.P.repr_of_int (by simpa [PyData.showable] using hs) (fin _ _ _ fun _ _ e => e)
  | str y t =>
    simp only [PyData.shown] at fin hz
    exact PySem.P.repr_of_str (fin _ _ _ fun _ _ e => e) hz
  | list h1 h2 h3 h4 => exact repr_of_reads' (.list h1 h2 h3 h4) hs hm hg (by omega) (fun _ _ e => e) fin hz
  | tuple h1 h2 h3 h4 => exact repr_of_reads' (.tuple h1 h2 h3 h4) hs hm hg (by omega) (fun _ _ e => e) fin hz
  | dict h1 h2 h3 h4 h5 => exact repr_of_reads' (.dict h1 h2 h3 h4 h5) hs hm hg (by omega) (fun _ _ e => e) fin hz
end
section
variable {P : Program} {w : World} {K : PySem.W.Frag} {mg mb : Str → Option Value} {k : Nat} {fa a : Addr} {fd : FuncData} {x : Str} {s₁ : Shared} {vs : List Value} {ns : List Int}
/-- over one abstract heap, in which the script alone may be tracked -/
theorem law_oneS {H : Hp} (KX : K.In s₁.heap) (glob : s₁.heap.Ns mainGlobals mg) (blt : s₁.heap.Ns builtinsNs mb) (boot : ∀ x : Str, x ≠ "__name__" → mb x = bootBuiltins x) (lim : s₁.heap.NoLimit) (seer : s₁.heap.NoSeer) (gens : s₁.gens = #[])
    (here : s₁.heap.get? a = some { cls := .type "list", data := .seq vs.toArray }) (room : Room k callerA) (F : ∀ base : Heap, K.In base → base.Ns mainGlobals mg → SysAt base → FnG P w K mg base CX0 k fa fd [x] (spLaw K))
    (bind : ∀ (s : Shared) (u : Value), BindsTo s fd ⟨[u], []⟩ [(x, u)]) (sq : SqL K H a (ns.map V.int)) (short : ns.length ≤ 63) (hok : HOk P w H s₁.heap) (only : ∀ b u, H b = some u → b = a ∧ K.lookup a = none ∧ ∃ xs, u = .frz { cls := .type "list", data := .seq vs.toArray } (.lst xs)) :
    codeAny (model P w) callerA (.call (.ref fa) ⟨[.ref a], []⟩) (fun r s' => r = .ok (.ret (.bool true)) ∧ OldK s₁.heap s'.heap ∧ s'.os = s₁.os ∧ AllBare s'.gens) s₁ := by
  have clear : ∀ {b : Addr} {o : Obj} {es : Array DictEntry} {ep : Nat}, s₁.heap.get? b = some o → o.data = .dict es ep → H b = none := by
    intro b o es ep e d
    cases q : H b with
    | none => rfl
    | some u =>
      obtain ⟨rfl, -⟩ := only b u q
      rw [here] at e
      cases e
      cases d
  have space : ∀ {b : Addr} {m : Str → Option Value}, s₁.heap.Ns b m → (hidT s₁.heap H).Ns b m := by
    rintro b m ⟨o, es, ep, e, d, r⟩
    exact ⟨o, es, ep, hidT_get e (clear e d), d, r⟩
  have frag : K.In (hidT s₁.heap H) := by
    intro b o e
    refine hidT_get (KX b o e) ?_
    cases q : H b with
    | none => rfl
    | some u =>
      obtain ⟨rfl, no, -⟩ := only b u q
      rw [no] at e
      cases e
  obtain ⟨mc, l1, l2⟩ := lim
  have env : Env0 P w K mg (hidT s₁.heap H) callerA [] s₁ H :=
    { frames := rfl, mod := ⟨frag, space glob, ⟨mb, space blt, boot⟩, ⟨mc, space l1, l2⟩⟩, bs := fun b o e => of_hidT e, bsz := Nat.le_of_eq (hidT_size _ _), funs := trivial, frf := fun b z => (List.not_mem_nil z).elim, hok := hok, bare := .of_eq gens }
  refine codeAny_mono ((F _ frag (space glob) (by
    obtain ⟨ms, ⟨o, es, ep, e, d, r⟩, -⟩ := seer.mods
    exact ⟨o, hidT_get e (clear e d)⟩)).go callerA [] s₁ H ⟨[.ref a], []⟩ [.ref a] [.ref a] (fun v _ => v = .bl true) E0 rfl room env (bind s₁ (.ref a)) (.cons rfl .nil) ⟨a, ns, rfl, sq, short, fun _ => rfl⟩) fun r s' h => ?_
  rcases r with _ | fl
  · exact h.elim
  · cases fl with
    | next => exact h.elim
    | brk => exact h.elim
    | cont => exact h.elim
    | ret u =>
      obtain ⟨v, H', os, bare, un, hok', rv, ev⟩ := h
      cases ev
      cases rv
      refine ⟨rfl, .of_keep fun b o e => ?_, os, bare⟩
      cases q : H b with
      | none => exact un.keep b o e q (fun z => (List.not_mem_nil z).elim) (fun z => (List.not_mem_nil z).elim)
      | some u =>
        obtain ⟨rfl, -, xs, rfl⟩ := only b u q
        rw [here] at e
        cases e
        exact (hok' b _ (un.frzs b _ _ q)).1
theorem law_callS (KX : K.In s₁.heap) (glob : s₁.heap.Ns mainGlobals mg) (blt : s₁.heap.Ns builtinsNs mb) (boot : ∀ x : Str, x ≠ "__name__" → mb x = bootBuiltins x) (lim : s₁.heap.NoLimit) (seer : s₁.heap.NoSeer) (gens : s₁.gens = #[])
    (here : s₁.heap.get? a = some { cls := .type "list", data := .seq vs.toArray }) (whole : IntsAre vs ns) (short : ns.length ≤ 63) (room : Room k callerA) (F : ∀ base : Heap, K.In base → base.Ns mainGlobals mg → SysAt base → FnG P w K mg base CX0 k fa fd [x] (spLaw K))
    (bind : ∀ (s : Shared) (u : Value), BindsTo s fd ⟨[u], []⟩ [(x, u)]) :
    codeAny (model P w) callerA (.call (.ref fa) ⟨[.ref a], []⟩) (fun r s' => r = .ok (.ret (.bool true)) ∧ OldK s₁.heap s'.heap ∧ s'.os = s₁.os ∧ AllBare s'.gens) s₁ := by
  have small : ns.length ≤ sizeLine := by
    rw [sizeLine_eq]
    omega
  have same := whole.length
  cases q : K.lookup a with
  | some o =>
    have e := KX a o q
    rw [here] at e
    cases e
    exact law_oneS (H := fun _ => none) KX glob blt boot lim seer gens here room F bind (.inr ⟨_, vs.toArray, _, q, rfl, rfl, rfl, by rw [List.size_toArray, same]; exact small, by simpa using vals_ints whole⟩) short (fun b u z => nomatch z) (fun b u z => nomatch z)
  | none =>
    let H : Hp := upd (fun _ => none) a (.frz { cls := .type "list", data := .seq vs.toArray } (.lst (ns.map V.int)))
    have only : ∀ b u, H b = some u → b = a ∧ u = .frz { cls := .type "list", data := .seq vs.toArray } (.lst (ns.map V.int)) := by
      intro b u z
      by_cases e : b = a
      · subst e
        exact ⟨rfl, (Option.some.inj (upd_same.symm.trans z)).symm⟩
      · have z' := (upd_ne (H := fun _ => none) (o := .frz { cls := .type "list", data := .seq vs.toArray } (.lst (ns.map V.int))) e).symm.trans z
        cases z'
    refine law_oneS (H := H) KX glob blt boot lim seer gens here room F bind (.inl (.inr ⟨_, upd_same⟩)) short (fun b u z => ?_) (fun b u z => ?_)
    · obtain ⟨rfl, rfl⟩ := only b u z
      exact ⟨here, by rw [List.length_map]; exact small, vs, _, vals_ints whole, here⟩
    · obtain ⟨rfl, rfl⟩ := only b u z
      exact ⟨rfl, q, _, rfl⟩
end
theorem walk_ofS {l : PySem.W.OpenLaw} {k : Nat} {q : Program} {loose : List Str} {XP : (Str → Option Value) → Heap → Prop} {YP : World → Heap → Prop} {d : DefRec} {K : Params → PySem.W.Frag} {x : Str}
    (imp : importsNone q = true) (most : l.most = some 63) (plain : d.params.defaults = []) (room : Room k callerA) (hY : ∀ (w : World) (h : Heap), YP w h → (K w.params).In h)
    (F : ∀ (w : World) (mg : Str → Option Value) (fa : Addr) (h : Heap), (K w.params).In h → h.Ns mainGlobals mg → mg d.name = some (.ref fa) →
      ∃ fd : FuncData, (∀ (s : Shared) (u : Value), BindsTo s fd ⟨[u], []⟩ [(x, u)]) ∧ ∀ base : Heap, (K w.params).In base → base.Ns mainGlobals mg → SysAt base → FnG l.prog w (K w.params) mg base CX0 k fa fd [x] (spLaw (K w.params))) :
    PySem.W.WalkO q loose XP YP l.row.toRowW d [] (fun f vs => PySem.call f vs) := by
  refine Att.attach_call most plain fun w s₀ s₁ mg mb fa o pm cd doc a vs ns G Y ho hd hcd hmg here whole short gens => ?_
  obtain ⟨fd, bind, hF⟩ := F w mg fa _ (hY w _ Y) G.T.g hmg
  exact law_callS (hY w _ Y) G.T.g G.T.b G.T.builtins G.T.nolimit (G.T.seer imp) gens here whole short room hF bind
end Vf
namespace Vf
open PySem L2 PyProof.Rows PySem.Spec
/-! ## lists and tuples as written, the heap behind them told by what stays -/
def tWide (t : TA) : TA := fun σ H R => ∃ R0 : List V → Hp → Prop, t σ H R0 ∧ ∀ vs H1, R0 vs H1 → R vs H1
def tTupU (t : TA) : TE := fun σ H Q => t σ H fun xs H1 => xs.length ≤ sizeLine ∧ ∀ p H', Same H1 H' → H1 p = none → H' p = some (.tup xs) → Q (.ref p) H'
def tLstU (t : TA) : TE := fun σ H Q => t σ H fun xs H1 => xs.length ≤ sizeLine ∧ ∀ p H', Same H1 H' → H1 p = none → H' p = some (.lst xs) → Q (.ref p) H'
section
variable {X : Cx} {es : List Expr} {t : TA} {pos : Pos}
theorem pa_wide (h : PA X es t) : PA X es (tWide t) :=
  ⟨fun pos pins s σ H R I ⟨R0, h0, m⟩ => thn (h.run pos pins s σ H R0 I h0) fun us s1 ⟨xs, H1, I1, r, z⟩ => ⟨xs, H1, I1, r, m _ _ z⟩⟩
theorem pe_tupU {x1} (h : PA X es t) : PE X (.Tuple es x1 pos) (tTupU t) :=
  ⟨fun pins s σ H Q I hq => (pe_tup (pa_wide h)).run pins s σ H Q I ⟨_, hq, fun xs H1 ⟨z, q⟩ => ⟨z, fun p hp => q p _ (same_upd hp) hp upd_same⟩⟩⟩
theorem pe_lstU (h : PA X es t) : PE X (.List es pos) (tLstU t) :=
  ⟨fun pins s σ H Q I hq => (pe_lst (pa_wide h)).run pins s σ H Q I ⟨_, hq, fun xs H1 ⟨z, q⟩ => ⟨z, fun p hp => q p _ (same_upd hp) hp upd_same⟩⟩⟩
end
end Vf
namespace Vf
open PySem L2 PyProof.Rows PySem.Spec
/-! ## how long data is when shown: a weight that adds up -/
mutual
def wt : PyData → Nat
  | .none => 10
  | .bool _ => 10
  | .int _ => 600
  | .str x => 10 * x.length + 7
  | .list l => 10 + wtL l
  | .tuple l => 10 + wtL l
  | .dict l => 10 + wtK l
def wtL : List PyData → Nat
  | [] => 0
  | d :: l => wt d + 5 + wtL l
def wtK : List (PyData × PyData) → Nat
  | [] => 0
  | (k, v) :: l => wt k + wt v + 10 + wtK l
end
theorem join_piled : ∀ ts : List Str, (Str.join ", " ts).length ≤ piled ts
  | [] => Nat.zero_le _
  | t :: ts => by
    have := join_length_add (t :: ts) (by simp)
    omega
theorem tuple_len (ts : List Str) : (tupleText ts).length ≤ 4 + piled ts := by
  have h := join_piled ts
  unfold tupleText
  rw [strLen_append, strLen_append]
  have e1 : (Str.ofString "(").length = 1 := rfl
  have e2 : (Str.ofString (if (ts.length == 1) = true then ",)" else ")" : String)).length ≤ 2 := by
    split <;> decide +kernel
  omega
theorem dict_len (ts : List Str) : (dictText ts).length ≤ 4 + piled ts := by
  have h := join_piled ts
  unfold dictText
  rw [strLen_append, strLen_append]
  have e1 : (Str.ofString "{").length = 1 := rfl
  have e2 : (Str.ofString "}").length = 1 := rfl
  omega
theorem text_from : ∀ (ts : List Str) (k : Nat) (acc : Str), (textFrom k acc ts).length ≤ acc.length + piled ts
  | [], _, _ => Nat.le_refl _
  | t :: ts, k, acc => by
    have h := text_from ts (k + 1) (acc ++ (if k > 0 then ", " else "" : String) ++ t)
    rw [strLen_append, strLen_append] at h
    have e : (Str.ofString (if k > 0 then ", " else "" : String)).length ≤ 2 := by
      split <;> decide +kernel
    rw [piled_cons]
    show (textFrom (k + 1) (acc ++ (if k > 0 then ", " else "" : String) ++ t) ts).length ≤ _
    omega
theorem list_len (ts : List Str) : (listText ts).length ≤ 4 + piled ts := by
  have h := text_from ts 0 "["
  unfold listText
  rw [strLen_append]
  have e1 : (Str.ofString "[").length = 1 := rfl
  have e2 : (Str.ofString "]").length = 1 := rfl
  omega
mutual
/-- its texts may be shown, its whole numbers are no greater -/
def okD (B : Nat) : PyData → Bool
  | .str x => PyData.strOk x
  | .int i => decide (i.natAbs ≤ B)
  | .list l => okL B l
  | .tuple l => okL B l
  | .dict l => okK B l
  | _ => true
def okL (B : Nat) : List PyData → Bool
  | [] => true
  | d :: l => okD B d && okL B l
def okK (B : Nat) : List (PyData × PyData) → Bool
  | [] => true
  | (k, v) :: l => okD B k && okD B v && okK B l
end
theorem repr_len {s : Str} (k : PyData.strOk s = true) : (reprText s).length ≤ 10 * s.length + 2 := by
  have h1 := StrLaws.reprText_len s fun c hc => by
    have := Array.all_eq_true_iff_forall_mem.mp k c (by simpa using hc)
    have : c < 0x110000 := by simpa using this
    omega
  omega
theorem int_len {i : Int} (h : i.natAbs ≤ 10 ^ 50) : (PyData.shown (.int i)).length ≤ 52 ∧ PyData.showable (.int i) = true := by
  constructor
  · have hd : (Nat.toDigits 10 i.natAbs).length ≤ 51 := digits10_le (by decide) (Nat.lt_of_le_of_lt h (by decide))
    have e : (PyData.shown (.int i)).length = (toString i).toList.length := by
      simp only [PyData.shown]
      show (Str.ofString (toString i)).length = _
      rw [Str.ofString_eq_toList]
      simp [Str.length]
    rw [e, Int.toString_eq_repr, Int.repr_eq_if]
    split
    · rw [Nat.toList_repr]
      have : i.toNat = i.natAbs := by omega
      rw [this]
      omega
    · rw [String.toList_append, List.length_append, Nat.toList_repr]
      have : (-i).toNat = i.natAbs := by omega
      have e1 : ("-" : String).toList.length = 1 := by decide
      rw [this, e1]
      omega
  · simp only [PyData.showable, decide_eq_true_eq]
    by_cases h0 : i.natAbs = 0
    · rw [h0]
      decide
    · rw [Nat.log2_lt h0]
      exact Nat.lt_of_le_of_lt h (by decide +kernel)
mutual
theorem shown_wt {B : Nat} (hB : B ≤ 10 ^ 50) : ∀ d : PyData, okD B d = true → (PyData.shown d).length ≤ wt d
  | .none, _ => by decide +kernel
  | .bool true, _ => by decide +kernel
  | .bool false, _ => by decide +kernel
  | .int i, h => by
    simp only [okD, decide_eq_true_eq] at h
    have := (int_len (i := i) (by omega)).1
    simp only [wt]
    omega
  | .str x, h => by
    simp only [okD] at h
    have := repr_len h
    simp only [wt, PyData.shown]
    omega
  | .list l, h => by
    simp only [okD] at h
    have h := shownL_wt hB l h
    have h2 := list_len (PyData.shownAll l)
    simp only [wt, PyData.shown]
    omega
  | .tuple l, h => by
    simp only [okD] at h
    have h := shownL_wt hB l h
    have h2 := tuple_len (PyData.shownAll l)
    simp only [wt, PyData.shown]
    omega
  | .dict l, h => by
    simp only [okD] at h
    have h := shownK_wt hB l h
    have h2 := dict_len (PyData.shownKv l)
    simp only [wt, PyData.shown]
    omega
theorem shownL_wt {B : Nat} (hB : B ≤ 10 ^ 50) : ∀ l : List PyData, okL B l = true → piled (PyData.shownAll l) ≤ wtL l
  | [], _ => Nat.le_refl _
  | d :: l, h => by
    simp only [okL, Bool.and_eq_true] at h
    have h1 := shown_wt hB d h.1
    have h2 := shownL_wt hB l h.2
    simp only [PyData.shownAll, piled_cons, wtL]
    omega
theorem shownK_wt {B : Nat} (hB : B ≤ 10 ^ 50) : ∀ l : List (PyData × PyData), okK B l = true → piled (PyData.shownKv l) ≤ wtK l
  | [], _ => Nat.le_refl _
  | (k, v) :: l, h => by
    simp only [okK, Bool.and_eq_true] at h
    have h0 := shown_wt hB k h.1.1
    have h1 := shown_wt hB v h.1.2
    have h2 := shownK_wt hB l h.2
    have e : (Str.ofString ": ").length = 2 := rfl
    simp only [PyData.shownKv, piled_cons, wtK, strLen_append]
    omega
end
theorem wtL_append : ∀ a b : List PyData, wtL (a ++ b) = wtL a + wtL b
  | [], b => by simp [wtL]
  | x :: a, b => by
    rw [List.cons_append, wtL, wtL, wtL_append a b]
    omega
theorem wtL_len : ∀ l : List PyData, 5 * l.length ≤ wtL l
  | [] => Nat.le_refl _
  | d :: l => by
    have h := wtL_len l
    simp only [wtL, List.length_cons]
    omega
theorem wtL_take (n : Nat) (l : List PyData) : wtL (l.take n) + wtL (l.drop n) = wtL l := by
  rw [← wtL_append, List.take_append_drop]
end Vf
namespace Vf
open PySem L2 PyProof.Rows PySem.Spec
/-! ## a def with defaults, called by places, where no repr is under way -/
/-- a def of the top's text with defaults, as it stands in the module -/
structure DfD (K : PySem.W.Frag) (mg : Str → Option Value) (x : Str) (st : Stmt) (dvs : List V) (f : Addr) (fd : FuncData) : Prop where
  fn : FunD K x x (defArgs st) (defBody st) (defScope st) dvs [] f fd
  gl : mg x = some (.ref f)
/-- a def that may be called, the last of its values left out -/
structure CalD (P : Program) (w : World) (K : PySem.W.Frag) (mg : Str → Option Value) (base : Heap) (x : Str) (ps : List Str) (k : Nat) (sp : Sp) (dvs : List V) : Prop where
  ex : ∃ f fd ds, FnG P w K mg base CX0 k f fd ps sp ∧ mg x = some (.ref f) ∧ PySem.W.keepIn K (.ref f) = true ∧ Binds K fd ps ds ∧ Vals dvs ds
section
variable {K : PySem.W.Frag} {P : Program} {w : World} {base : Heap} {mg : Str → Option Value} {x : Str} {st : Stmt} {f : Addr} {fd : FuncData} {N ps : List Str} {k : Nat} {sp : Sp} {dvs : List V}
theorem DfD.fnG (D : DfD K mg x st dvs f fd) (S : FnScope N ps (defScope st)) (many : ∀ vs H Q E, sp vs H Q E → vs.length = ps.length)
    (bd : ∀ (cdv : Value) (A : Around) (outer : List Env) (s : Shared) (H : Hp) (vs : List V) (Q : VK) (E : XK), (A.deeper (envOfC x (defScope st) s.heap.objs.size f cdv)).guards = some [] → Room k (A.deeper (envOfC x (defScope st) s.heap.objs.size f cdv)) → sp vs H Q E →
      ∃ t, PSs (cxOf CX0 P w K mg base N x (defScope st) f cdv A outer s H E).nox (defBody st) t ∧ t { nx := fun _ H' => Q .non H', rt := Q } (start N vs) H) : FnG P w K mg base CX0 (k + 1) f fd ps sp := by
  obtain ⟨oc, od, dV, kV, doc, pm, an, cdv, ct, osl, rfl, here, code, _, _⟩ := D.fn.ex
  refine fnG_of here code S many fun A outer s H vs Q E hg hr hsp => ?_
  obtain ⟨t, h1, h2⟩ := bd cdv A outer s H vs Q E hg hr hsp
  exact ⟨t, h1.nox, h2⟩
/-- called with n values, the first j defaults being given -/
theorem DfD.calD (D : DfD K mg x st dvs f fd) (F : FnG P w K mg base CX0 k f fd ps sp) (n j : Nat) (hd : dvs ≠ []) (hn : n + (dvs.length - j) = ps.length)
    (h : ∀ (T : Addr) (kV doc pm : Value) (an : Option Addr) (cdv ct : Value) (us its : List Value), us.length = n → its.length = dvs.length →
      ∃ k, bindArgs (PySem.W.fnOf x x (defArgs st) (defBody st) (defScope st) (.ref T) kV doc pm an cdv ct) ⟨us, []⟩ = seqItems? (.ref T) >>= k ∧ k (some its.toArray) = pure (ps.zip (us ++ its.drop j))) : CalD P w K mg base x ps k sp (dvs.drop j) := by
  obtain ⟨ds, r, b⟩ := D.fn.binds1 n j hd hn h
  exact ⟨f, fd, ds, F, D.gl, D.fn.kp, b, r⟩
end
section
variable {X : Cx} {k : Nat} {ps : List Str} {sp : Sp} {x : Str} {p pos : Pos} {e : Expr} {es : List Expr} {t : TA} {dvs : List V}
theorem pe_calD (c : CalD X.prog X.w X.K X.mg X.base x ps k sp dvs) (hgd : X.A.guards = some []) (hr : Room k X.A) (hg : Gl X x) (ha : PA X (e :: es) t) (hdb : (x == ("__debug__" : Str)) = false := by decide)
    (he : starEach (e :: es) X.env = (false, eval e X.env) :: starEach es X.env := by rfl) (hpl : (backTo pos (starEach es X.env)).any (·.1) = false := by rfl) : PE X (.Call (.Name x p) (e :: es) [] pos) (tCall sp dvs E0 t) := by
  obtain ⟨f, fd, ds, F, gl, kp, bi, rd⟩ := c.ex
  refine ⟨fun pins s σ H Q I h => wpAny_Call_Name_kw (ld_glob I hg gl ?_ hdb)⟩
  refine PySem.W.callWith_K (h₀ := X.base) I.ok.mod.kin kp (thn (ha.run pos pins s σ H _ I h) fun us s1 ⟨vs, H1, I1, r, q⟩ => ⟨I1.kIn, ?_⟩) he hpl
  have q : sp (vs ++ dvs) H1 Q E0 := q
  have rr := r.append rd
  exact wpAny_call (go_cal F hgd hr I1 (bi s1 us I1.kIn (by rw [← rr.length]; exact F.many _ _ _ _ q)) rr q)
end
end Vf
namespace Vf
open PySem L2 PyProof.Rows PySem.Spec
/-! ## whole numbers that may be truths; great letters -/
def numV : V → Option Int
  | .int i => some i
  | .bl b => some (if b = true then 1 else 0)
  | _ => none
def rNumL (g : Int → Int → Int) : R2 := fun x y H Q => ∃ i j, numV x = some i ∧ y = .int j ∧ Q (.int (g i j)) H
def rNumR (g : Int → Int → Int) : R2 := fun x y H Q => ∃ i j, x = .int i ∧ numV y = some j ∧ Q (.int (g i j)) H
def rEqN : R2 := fun x y H Q => ∃ i j, numV x = some i ∧ y = .int j ∧ Q (.bl (decide (i = j))) H
def rStrN : List V → Hp → VK → Prop := fun xs H Q => (∃ i, xs = [.int i] ∧ i.natAbs.log2 < 1920 ∧ Q (.str (Str.ofString (toString i))) H) ∨ ∃ b : Bool, xs = [.bl b] ∧ Q (.str (Str.ofString (if b = true then "True" else "False"))) H
section
variable {X : Cx}
theorem aAddN : OpR X (binaryOp .Add) (rNumL fun i j => i + j) := by
  intro pins s σ H x y v u Q I rx ry ⟨i, j, hx, hy, q⟩
  subst hy
  cases x with
  | int k =>
    cases hx
    exact op_add pins s σ H _ _ v u Q I rx ry ⟨_, _, rfl, rfl, q⟩
  | bl b =>
    cases hx
    cases rx
    obtain ⟨t, rfl⟩ := ry
    exact PySem.IntBool.add_bool_int ⟨.int _, H, I.tok _, ⟨_, rfl⟩, q⟩
  | _ => cases hx
theorem aSubN : OpR X (binaryOp .Sub) (rNumL fun i j => i - j) := by
  intro pins s σ H x y v u Q I rx ry ⟨i, j, hx, hy, q⟩
  subst hy
  cases x with
  | int k =>
    cases hx
    exact op_sub pins s σ H _ _ v u Q I rx ry ⟨_, _, rfl, rfl, q⟩
  | bl b =>
    cases hx
    cases rx
    obtain ⟨t, rfl⟩ := ry
    exact PySem.IntBool.sub_bool_int ⟨.int _, H, I.tok _, ⟨_, rfl⟩, q⟩
  | _ => cases hx
theorem aSubR : OpR X (binaryOp .Sub) (rNumR fun i j => i - j) := by
  intro pins s σ H x y v u Q I rx ry ⟨i, j, hx, hy, q⟩
  subst hx
  cases y with
  | int k =>
    cases hy
    exact op_sub pins s σ H _ _ v u Q I rx ry ⟨_, _, rfl, rfl, q⟩
  | bl b =>
    cases hy
    cases ry
    obtain ⟨t, rfl⟩ := rx
    exact PySem.IntBool.sub_int_bool ⟨.int _, H, I.tok _, ⟨_, rfl⟩, q⟩
  | _ => cases hy
theorem aEqN : OpR X (compareOp .Eq) rEqN := by
  intro pins s σ H x y v u Q I rx ry ⟨i, j, hx, hy, q⟩
  subst hy
  cases x with
  | int k =>
    cases hx
    have e : decide (V.int i = V.int j) = decide (i = j) := by simp
    exact op_eq pins s σ H _ _ v u Q I rx ry ⟨rfl, by rw [e]; exact q⟩
  | bl b =>
    cases hx
    cases rx
    obtain ⟨t, rfl⟩ := ry
    refine SeqAt.RcAt.bool_int b j t X.prog X.w _ _ ⟨.bl _, H, I, rfl, ?_⟩
    have e : ((if b = true then (1 : Int) else 0) == j) = decide ((if b = true then (1 : Int) else 0) = j) := rfl
    rw [e]
    exact q
  | _ => cases hx
theorem aStrN : CallR X (.type "str") rStrN := by
  intro pins s σ H xs us Q I rr h
  rcases h with h | ⟨b, rfl, q⟩
  · exact call_str_int pins s σ H xs us Q I rr h
  · obtain ⟨u, rfl, rx⟩ := vals1 rr
    cases rx
    refine PySem.P.str_of_bool ⟨.str _, H, I.tok _, ⟨_, rfl⟩, ?_⟩
    cases b <;> exact q
end
/-! great letters of any text are signs, too -/
theorem shifted_small : ∀ (l : List (Nat × Nat × Nat)) (c u : Nat), l.all (fun r => decide (r.2.2 + (r.2.1 - r.1) < 0x110000)) = true → Unicode.shifted l c = some u → u < 0x110000
  | [], _, _, _, h => by cases h
  | (a, b, t) :: r, c, u, hall, h => by
    rw [List.all_cons, Bool.and_eq_true, decide_eq_true_eq] at hall
    unfold Unicode.shifted at h
    by_cases h1 : c < a
    · rw [if_pos h1] at h
      cases h
    · rw [if_neg h1] at h
      by_cases h2 : c ≤ b
      · rw [if_pos h2] at h
        cases h
        have := hall.1
        simp only at this
        omega
      · rw [if_neg h2] at h
        exact shifted_small r c u hall.2 h
theorem upperOf_small {c : Nat} (hc : c < 0x110000) : ∀ u ∈ Unicode.upperOf c, u < 0x110000 := by
  intro u hu
  unfold Unicode.upperOf Unicode.image at hu
  split at hu
  · next cs hl =>
    have := StrLaws.lookup_all (p := fun l => l.all fun x => decide (x < 0x110000)) UnicodeData.severalUpper c cs (by decide +kernel) hl
    simpa using List.all_eq_true.mp this u hu
  · rw [List.mem_singleton] at hu
    subst hu
    cases e : Unicode.shifted UnicodeData.oneUpper c with
    | none => exact hc
    | some u => exact shifted_small _ c u (by decide +kernel) e
theorem upper_strOk {s : Str} (h : PyData.strOk s = true) : PyData.strOk (Txt.upper s) = true := by
  refine Array.all_eq_true_iff_forall_mem.mpr fun x hx' => ?_
  have hs := Array.all_eq_true_iff_forall_mem.mp h
  unfold Txt.upper placed at hx'
  obtain ⟨l, hl, hm⟩ := Array.mem_flatten.mp hx'
  obtain ⟨i, hi, rfl⟩ := Array.mem_mapIdx.mp hl
  have hc := hs s.cps[i] (by simp)
  have hc : s.cps[i] < 0x110000 := by simpa using hc
  simpa using upperOf_small hc x (by simpa using hm)
end Vf
namespace Vf
open PySem L2 PyProof.Rows PySem.Spec
/-! ## what is written out: tuples, lists, dicts of constants and of names; all of it lies in a part G of the heap, and in what is new -/
theorem lineLe {n : Nat} (h : n ≤ 1000000) : n ≤ sizeLine := by
  rw [sizeLine_eq]
  omega
def Only (H G G' : Hp) : Prop := ∀ b, H b ≠ none → G b = none → G' b = none
theorem Only.refl (H G : Hp) : Only H G G := fun _ _ h => h
theorem Only.trans {H H1 G G1 G2 : Hp} (s : Same H H1) (a : Only H G G1) (b : Only H1 G1 G2) : Only H G G2 := fun x h1 h2 => b x (fun e => h1 (s.free e)) (a x h1 h2)
/-- the state's slots hold these data, within G -/
def Has (σ : L2.St) (G : Hp) : List (Nat × PyData) → Prop
  | [] => True
  | (i, d) :: r => (∃ v, σ[i]? = some (some v) ∧ Dv G v d) ∧ Has σ G r
theorem Has.same {σ : L2.St} {G G' : Hp} (s : Same G G') : ∀ {vs : List (Nat × PyData)}, Has σ G vs → Has σ G' vs
  | [], _ => trivial
  | (_, _) :: _, ⟨⟨v, e, h⟩, t⟩ => ⟨⟨v, e, h.same s⟩, t.same s⟩
theorem Has.app {σ : L2.St} {G : Hp} : ∀ {vs ws : List (Nat × PyData)}, Has σ G (vs ++ ws) → Has σ G vs ∧ Has σ G ws
  | [], _, h => ⟨trivial, h⟩
  | (_, _) :: _, _, ⟨a, t⟩ => ⟨⟨a, t.app.1⟩, t.app.2⟩
structure Grow (H G H' G' : Hp) : Prop where
  big : Same H H'
  part : Same G G'
  sub : Same G' H'
  only : Only H G G'
theorem Grow.refl {H G : Hp} (s : Same G H) : Grow H G H G := ⟨Same.refl H, Same.refl G, s, Only.refl H G⟩
theorem Grow.trans {H G H1 G1 H2 G2 : Hp} (a : Grow H G H1 G1) (b : Grow H1 G1 H2 G2) : Grow H G H2 G2 := ⟨a.big.trans b.big, a.part.trans b.part, b.sub, a.only.trans a.big b.only⟩
/-- a new thing, in both -/
theorem Grow.new {H G : Hp} {p : Addr} {o : HO} (s : Same G H) (n : H p = none) : Grow H G (upd H p o) (upd G p o) := by
  have ng : G p = none := s.free n
  refine ⟨same_upd n, same_upd ng, fun b u e => ?_, fun b h1 h2 => ?_⟩
  · by_cases hb : b = p
    · subst hb
      rw [upd_same] at e ⊢
      exact e
    · rw [upd_ne hb] at e ⊢
      exact s b u e
  · have hb : b ≠ p := fun z => h1 (by rw [z]; exact n)
    rw [upd_ne hb]
    exact h2
def tD (vs : List (Nat × PyData)) (d : PyData) : TE := fun σ H Q => ∃ G, Same G H ∧ Has σ G vs ∧ ∀ x H' G', Grow H G H' G' → Dv G' x d → Q x H'
def tDs (vs : List (Nat × PyData)) (ds : List PyData) : TA := fun σ H Q => ∃ G, Same G H ∧ Has σ G vs ∧ ∀ xs H' G', Grow H G H' G' → DvAll G' xs ds → Q xs H'
/-- a new list of such things, its place told apart -/
def tDL (vs : List (Nat × PyData)) (ds : List PyData) : TE := fun σ H Q => ∃ G, Same G H ∧ Has σ G vs ∧ ∀ p xs H' G', Grow H G H' G' → DvAll G' xs ds → H' p = none → Q (.ref p) (upd H' p (.lst xs))
section
variable {X : Cx} {pos : Pos} {e : Expr} {es : List Expr} {vs ws : List (Nat × PyData)} {d : PyData} {ds : List PyData}
theorem peTo {t t' : TE} (h : PE X e t) (m : ∀ σ H Q, t' σ H Q → t σ H Q) : PE X e t' := ⟨fun pins s σ H Q I q => h.run pins s σ H Q I (m σ H Q q)⟩
theorem paTo {t t' : TA} (h : PA X es t) (m : ∀ σ H Q, t' σ H Q → t σ H Q) : PA X es t' := ⟨fun pos pins s σ H Q I q => h.run pos pins s σ H Q I (m σ H Q q)⟩
theorem wD_con {v : V} (h : PE X e (tC v)) (k : ∀ H, Dv H v d) : PE X e (tD [] d) := peTo h fun σ H Q ⟨G, s, _, q⟩ => q v H G (Grow.refl s) (k G)
theorem wD_var {i : Nat} (d : PyData) (h : PE X e (tVar i)) : PE X e (tD [(i, d)] d) := peTo h fun σ H Q ⟨G, s, ⟨⟨v, e, hv⟩, _⟩, q⟩ => ⟨v, e, q v H G (Grow.refl s) hv⟩
theorem wDs_nil : PA X [] (tDs [] []) := paTo pa_nil fun σ H Q ⟨G, s, _, q⟩ => q [] H G (Grow.refl s) .nil
theorem wDs_cons (h : PE X e (tD vs d)) (t : PA X es (tDs ws ds)) (hs : starEach (e :: es) X.env = (false, eval e X.env) :: starEach es X.env := by rfl) : PA X (e :: es) (tDs (vs ++ ws) (d :: ds)) :=
  paTo (pa_cons h t hs) fun σ H Q ⟨G, s, hv, q⟩ => ⟨G, s, hv.app.1, fun x H1 G1 g1 hx => ⟨G1, g1.sub, hv.app.2.same g1.part, fun xs H2 G2 g2 hxs => q (x :: xs) H2 G2 (g1.trans g2) (.cons (hx.same g2.part) hxs)⟩⟩
theorem wD_tup {x1} (t : PA X es (tDs vs ds)) (hl : ds.length ≤ 1000000 := by exact Nat.le_of_ble_eq_true rfl) : PE X (.Tuple es x1 pos) (tD vs (.tuple ds)) :=
  peTo (pe_tup t) fun σ H Q ⟨G, s, hv, q⟩ => ⟨G, s, hv, fun xs H1 G1 g1 hxs => ⟨lineLe (by rw [hxs.len]; exact hl), fun p hp => q (.ref p) _ _ (g1.trans (Grow.new g1.sub hp)) (.tup upd_same (hxs.same (same_upd (g1.sub.free hp))))⟩⟩
theorem wD_lst (t : PA X es (tDs vs ds)) (hl : ds.length ≤ 1000000 := by exact Nat.le_of_ble_eq_true rfl) : PE X (.List es pos) (tD vs (.list ds)) :=
  peTo (pe_lst t) fun σ H Q ⟨G, s, hv, q⟩ => ⟨G, s, hv, fun xs H1 G1 g1 hxs => ⟨lineLe (by rw [hxs.len]; exact hl), fun p hp => q (.ref p) _ _ (g1.trans (Grow.new g1.sub hp)) (.lst upd_same (hxs.same (same_upd (g1.sub.free hp))))⟩⟩
theorem wDL (t : PA X es (tDs vs ds)) (hl : ds.length ≤ 1000000 := by exact Nat.le_of_ble_eq_true rfl) : PE X (.List es pos) (tDL vs ds) :=
  peTo (pe_lst t) fun σ H Q ⟨G, s, hv, q⟩ => ⟨G, s, hv, fun xs H1 G1 g1 hxs => ⟨lineLe (by rw [hxs.len]; exact hl), fun p hp => q p xs H1 G1 g1 hxs hp⟩⟩
theorem wD_dic0 : PE X (.Dict [] [] pos) (tD [] (.dict [])) :=
  peTo pe_dnewK fun σ H Q ⟨G, s, _, q⟩ p hp => q (.ref p) _ _ (Grow.new s hp) (.dic upd_same .nil)
theorem wD_dic1 {k : Int} {j : Nat} {p1 : Pos} (h : PE X e (tD vs d)) : PE X (.Dict [some (.Constant (.int k) j p1)] [e] pos) (tD vs (.dict [(.int k, d)])) :=
  peTo (pe_disp (pps_cons pe_int h pps_nil) (by rfl) (by rfl) (fun z => by cases z) (by first | decide | exact Nat.succ_le_succ (Nat.zero_le _))) fun σ H Q ⟨G, s, hv, q⟩ p hp => by
    have ng : G p = none := s.free hp
    have s1 : Same G (upd H p (.dK [])) := s.trans (same_upd hp)
    refine ⟨G, s1, hv, fun y H2 G2 g2 hy => ?_⟩
    have n2 : G2 p = none := g2.only p (by rw [upd_same]; nofun) ng
    refine ⟨g2.big _ _ upd_same, [(Sum.inl k, y)], rfl, Nat.succ_le_succ (Nat.zero_le _), ?_⟩
    show Q (.ref p) (upd H2 p (.dK [(Sum.inl k, y)]))
    refine q (.ref p) _ (upd G2 p (.dK [(Sum.inl k, y)])) ⟨fun b u e => ?_, g2.part.trans (same_upd n2), fun b u e => ?_, fun b h1 h2 => ?_⟩ (.dic (ds := [d]) upd_same (.cons (hy.same (same_upd n2)) .nil))
    · have hb : b ≠ p := fun z => by rw [z, hp] at e; cases e
      rw [upd_ne hb]
      exact g2.big _ _ (same_upd hp _ _ e)
    · by_cases hb : b = p
      · subst hb
        rw [upd_same] at e ⊢
        exact e
      · rw [upd_ne hb] at e ⊢
        exact g2.sub b u e
    · have hb : b ≠ p := fun z => h1 (by rw [z]; exact hp)
      rw [upd_ne hb]
      exact g2.only b (fun z => h1 ((same_upd hp).free z)) h2
theorem wD_neg {i : Int} {j : Nat} {p1 : Pos} : PE X (.UnaryOp .USub (.Constant (.int i) j p1) pos) (tD [] (.int (-i))) :=
  peTo (pe_un un_neg pe_int) fun σ H Q ⟨G, s, _, q⟩ => ⟨i, rfl, q _ H G (Grow.refl s) (.int _)⟩
theorem wD_pow {i n : Int} {j j2 : Nat} {p1 p2 : Pos} (h : CPow i n) : PE X (.BinOp (.Constant (.int i) j p1) .Pow (.Constant (.int n) j2 p2) pos) (tD [] (.int (i ^ n.toNat))) :=
  peTo (pe_op op_pow pe_int pe_int) fun σ H Q ⟨G, s, _, q⟩ => ⟨i, n, rfl, rfl, h, q _ H G (Grow.refl s) (.int _)⟩
end
/-- the heap without one thing -/
def offp (p : Addr) (H : Hp) : Hp := fun b => if b = p then none else H b
theorem offp_sub (p : Addr) (H : Hp) : Same (offp p H) H := fun b o e => by
  unfold offp at e
  split at e
  · cases e
  · exact e
theorem offp_self (p : Addr) (H : Hp) : offp p H p = none := by simp [offp]
theorem offp_ne {p b : Addr} {H : Hp} (h : b ≠ p) : offp p H b = H b := by simp [offp, h]
/-- what lies in a part without p lies in the heap without p -/
theorem into_offp {p : Addr} {G H : Hp} (s : Same G H) (n : G p = none) : Same G (offp p H) := fun b u e => by
  have hb : b ≠ p := fun z => by rw [z, n] at e; cases e
  rw [offp_ne hb]
  exact s b u e
theorem offp_upd (p : Addr) (H : Hp) (o : HO) : offp p (upd H p o) = offp p H := by
  funext b
  by_cases hb : b = p
  · simp [offp, hb]
  · rw [offp_ne hb, offp_ne hb, upd_ne hb]
theorem offp_same {p : Addr} {H H' : Hp} (s : Same H H') : Same (offp p H) (offp p H') := fun b u e => by
  by_cases hb : b = p
  · subst hb
    rw [offp_self] at e
    cases e
  · rw [offp_ne hb] at e ⊢
    exact s b u e
end Vf
namespace Vf
open PySem L2 PyProof.Rows PySem.Spec HT
/-! ## a tuple turned about; cuts and sums of tuples that lie in a part of the heap -/
theorem adjust_rev (n : Nat) : Builtin.Slice.sliceAdjust none none (-1) (n : Int) = ((n : Int) - 1, -1) := rfl
theorem places_rev (n : Nat) : Builtin.Slice.slicePlaces ((n : Int) - 1) (-1) (-1) = n := by
  unfold Builtin.Slice.slicePlaces
  rw [if_neg (by decide)]
  cases n with
  | zero => rfl
  | succ n =>
    rw [if_pos (by omega)]
    have : ((n + 1 : Nat) : Int) - 1 - -1 - 1 = (n : Nat) := by omega
    rw [this, show -(-1 : Int) = 1 by decide, Int.ediv_one]
    omega
theorem pick_rev (xs : Array Value) : ((List.range xs.size).filterMap fun (m : Nat) => xs[(((xs.size : Int) - 1) + (m : Int) * (-1)).toNat]?) = xs.toList.reverse := by
  apply List.ext_getElem?
  intro i
  have e : ∀ m ∈ List.range xs.size, xs[(((xs.size : Int) - 1) + (m : Int) * (-1)).toNat]? = some (xs.toList.reverse.getD m .none) := by
    intro m hm
    have hm := List.mem_range.mp hm
    have e1 : (((xs.size : Int) - 1) + (m : Int) * (-1)).toNat = xs.size - 1 - m := by omega
    rw [e1, List.getD_eq_getElem?_getD, List.getElem?_reverse (by simpa using hm)]
    simp only [Array.length_toList, Array.getElem?_toList]
    rw [Array.getElem?_eq_getElem (by omega)]
    rfl
  have e2 : ((List.range xs.size).filterMap fun (m : Nat) => xs[(((xs.size : Int) - 1) + (m : Int) * (-1)).toNat]?) = (List.range xs.size).map fun m => xs.toList.reverse.getD m .none := by
    have : ∀ l : List Nat, (∀ m ∈ l, m ∈ List.range xs.size) → (l.filterMap fun (m : Nat) => xs[(((xs.size : Int) - 1) + (m : Int) * (-1)).toNat]?) = l.map fun m => xs.toList.reverse.getD m .none := by
      intro l
      induction l with
      | nil => intro _; rfl
      | cons a l ih =>
        intro h
        rw [List.filterMap_cons, e a (h a List.mem_cons_self), List.map_cons, ih fun m hm => h m (List.mem_cons_of_mem _ hm)]
    exact this _ fun _ h => h
  rw [e2, List.getElem?_map]
  by_cases hi : i < xs.size
  · rw [List.getElem?_range hi]
    simp only [Option.map_some]
    rw [List.getD_eq_getElem?_getD, List.getElem?_eq_getElem (by simpa using hi)]
    rfl
  · rw [List.getElem?_eq_none (by simpa using Nat.le_of_not_lt hi), List.getElem?_eq_none (by simpa using Nat.le_of_not_lt hi)]
    rfl
section
variable {prog : Program} {w : World} {A : Around} {E : Value → Shared → Prop} {s : Shared}
theorem getItem_tuple_rev {t sl : Addr} {items : Array Value} {vs : Value} {Q : Value → Shared → Prop} (ht : IsTup s.heap t items) (hs : s.heap.IsSliceOf sl .none .none vs) (ps : IsPart vs (some (-1)))
    (h : Q (.ref s.heap.objs.size) { s with heap := s.heap.push { cls := .type "tuple", data := .seq items.toList.reverse.toArray } }) (hsz : items.size ≤ sizeLine) : wpAny (model prog w) A (getItem (.ref t) (.ref sl)) Q E s := by
  have htake : sizeOk (.seq items.toList.reverse.toArray) := by
    show items.toList.reverse.toArray.size ≤ sizeLine
    rw [List.size_toArray, List.length_reverse, Array.length_toList]
    exact hsz
  obtain ⟨os, hos, hcs, hds⟩ := id hs
  have hTs : s.TypeIs (.ref sl) "slice" := ⟨os, hos, hcs⟩
  unfold getItem
  try with_reducible refine wpAny_holding ?_
  first | refine wpAny_bind (wpAny_pure ?_) | skip
  refine wpAny_bind (wpAny_sequenceKey ht.typeIs (by decide) ?_)
  refine wpAny_bind (wpAny_callSpecial?_slot (name := Str.ofString "__getitem__") ht.typeIs PyProof.Rows.slot_tuple_getitem
    (wpAny_call_entry PyProof.Rows.slot_tuple_getitem ht.typeIs entry_tuple_getitem ?_ (args_tuple_getitem _ _)))
  show wpAny _ _ (Builtin.Tuple.tupleItemsOf (.ref t) >>= _) _ _ s
  refine wpAny_bind (tupleItemsOf_ ht ?_)
  refine wpAny_bind (wpAny_typeOf hTs ?_)
  rw [if_pos (by decide)]
  refine wpAny_bind (m := Builtin.Slice.sliceApplied (.ref sl) (pure (items.size : Int))) ?_
  · unfold Builtin.Slice.sliceApplied Builtin.Slice.sliceFields
    refine wpAny_bind (wpAny_bind (wpAny_field hos hds (x := .none) rfl (wpAny_bind (wpAny_field hos hds (x := .none) rfl (wpAny_bind (wpAny_field hos hds (x := vs) rfl (wpAny_pure ?_)))))))
    refine wpAny_bind (slicePart_ ps ?_)
    show wpAny _ _ (if ((-1 : Int) == 0) = true then _ else _) _ _ s
    rw [if_neg (by decide)]
    refine wpAny_bind (slicePart_none (wpAny_bind (slicePart_none (wpAny_bind (wpAny_pure ?_)))))
    show wpAny _ _ (match Builtin.Slice.sliceAdjust none none (-1) (items.size : Int) with | (lo, hi) => pure (lo, (-1 : Int), Builtin.Slice.slicePlaces lo hi (-1))) _ _ s
    rw [adjust_rev]
    show wpAny _ _ (pure (((items.size : Int) - 1), (-1 : Int), Builtin.Slice.slicePlaces ((items.size : Int) - 1) (-1) (-1))) _ _ s
    rw [places_rev]
    refine wpAny_pure ?_
    have hno : ¬ ((((items.size : Int) - 1) == 0 && (-1 : Int) == 1 && items.size == items.size) = true) := by
      rw [show ((-1 : Int) == 1) = false from rfl, Bool.and_false, Bool.false_and]
      exact Bool.false_ne_true
    show wpAny _ _ (if (((items.size : Int) - 1) == 0 && (-1 : Int) == 1 && items.size == items.size) = true then _ else _) _ _ s
    rw [if_neg hno, pick_rev]
    first
      | exact wpAny_bind (m := Builtin.Tuple.tupleExact _) (wpAny_newObj_type (wpAny_pure ⟨_, rfl, wpAny_pure h⟩) htake)
      | exact wpAny_bind (m := Builtin.Tuple.tupleExact _) (wpAny_newObj_type (wpAny_bind (wpAny_pure (wpAny_pure ⟨_, rfl, wpAny_pure h⟩))) htake)
      | exact wpAny_bind (wpAny_bind (m := Builtin.Tuple.tupleExact _) (wpAny_newObj_type (wpAny_pure (wpAny_pure ⟨_, rfl, wpAny_pure h⟩)) htake))
      | exact wpAny_bind (wpAny_bind (m := Builtin.Tuple.tupleExact _) (wpAny_newObj_type (wpAny_pure ⟨_, rfl, wpAny_pure h⟩) htake))
end
section
variable {X : Cx}
def tRevT (K : PySem.W.Frag) (te : TE) : TE := fun σ H Q => te σ H fun x H1 => ∃ a xs, x = .ref a ∧ SqT K H1 a xs ∧ ∀ p, H1 p = none → Q (.ref p) (upd H1 p (.tup xs.reverse))
theorem pe_revT {e : Expr} {te : TE} {k : Nat} {p1 p2 p3 pos : Pos} (he : PE X e te) : PE X (.Subscript e (.Slice none none (some (.UnaryOp .USub (.Constant (.int 1) k p1) p2)) p3) pos) (tRevT X.K te) := by
  refine ⟨fun pins s σ H Q I h => ?_⟩
  refine Subscript_ (thn (he.run pins s σ H _ I h) fun v s1 ⟨x, H1, I1, r1, q1⟩ => ?_)
  obtain ⟨a, xs, ex, hx, q⟩ := q1
  subst ex
  cases r1
  have hst : PO X (some (.UnaryOp .USub (.Constant (.int 1) k p1) p2)) (tPart (tUn (rU fun i => .int (-i)) (tC (.int 1)))) := po_some (pe_un un_neg pe_int)
  refine wpAny_Slice (thn (po_none.run pins s1 σ H1 (fun o H2 => o = none ∧ H2 = H1) I1 ⟨rfl, rfl⟩) fun vl s2 ⟨l, H2, I2, pl, el, e2⟩ => ?_)
  subst el e2
  refine thn (po_none.run pins s2 σ H2 (fun o H3 => o = none ∧ H3 = H2) I2 ⟨rfl, rfl⟩) fun vu s3 ⟨u, H3, I3, pu, eu, e3⟩ => ?_
  subst eu e3
  refine thn (hst.run pins s3 σ H3 (fun o H4 => o = some (-1) ∧ H4 = H3) I3 ⟨1, rfl, -1, rfl, rfl, rfl⟩) fun vs s4 ⟨o, H4, I4, ps, eo, e4⟩ => ?_
  subst eo e4
  have I5 : Inv X pins σ H4 { s4 with heap := s4.heap.push { cls := .type "slice", data := .fields #[vl, vu, vs] } } := I4.kept (t' := s4.toks) fun b ob q => Heap.get?_push_of_some _ q
  obtain ⟨its, r, ht, hz⟩ := I5.tuple hx
  have hlen := r.length
  cases pl
  cases pu
  show wpAny (model X.prog X.w) X.A (subscriptTail e (.Slice none none (some (.UnaryOp .USub (.Constant (.int 1) k p1) p2)) p3) (.ref a) (.ref s4.heap.objs.size)) (EP X pins σ Q) X.xe { s4 with heap := s4.heap.push { cls := .type "slice", data := .fields #[.none, .none, vs] } }
  refine tail_any (ops := [.ref a, .ref s4.heap.objs.size]) ht.typeIs (PyProof.Rows.slot_tuple_getitem.lookup) ?_ (by with_unfolding_all rfl)
  refine getItem_tuple_rev ht (Heap.IsSliceOf.new _ .none .none vs) ps ?_ (by rw [List.size_toArray]; omega)
  refine ⟨.ref _, _, I5.laid (t' := s4.toks) (o := .tup xs.reverse) (fun b ob q => Heap.get?_push_of_some _ q) (Nat.le_refl _) ?_, rfl, q _ (I5.hok.fresh (Nat.le_refl _))⟩
  refine ⟨by rw [List.length_reverse]; exact hz, _, r.reverse, ?_⟩
  exact IsTup.new _ _
theorem aRevT {K : PySem.W.Frag} (h : X.K = K) {e : Expr} {te : TE} {k : Nat} {p1 p2 p3 pos : Pos} (he : PE X e te) : PE X (.Subscript e (.Slice none none (some (.UnaryOp .USub (.Constant (.int 1) k p1) p2)) p3) pos) (tRevT K te) := h ▸ pe_revT he
/-! within a part -/
def rSlD : V → Option Int → Option Int → Hp → VK → Prop := fun x lo hi H Q => ∃ G a xs, x = .ref a ∧ Same G H ∧ G a = some (.tup xs) ∧ ∀ p H' G', Grow H G H' G' → G' p = some (.tup (cutV xs lo hi)) → Q (.ref p) H'
theorem aSlD : SlR X rSlD := by
  intro pins s σ H x v vl vu lo hi sl Q I rx hs pl pu h
  obtain ⟨G, a, xs, rfl, sG, hx, q⟩ := h
  refine sl_tupA pins s σ H _ v vl vu lo hi sl Q I rx hs pl pu ⟨a, xs, rfl, .of (sG _ _ hx), fun e => q a H G (Grow.refl sG) ?_, fun _ p hp => q p _ _ (Grow.new sG hp) upd_same⟩
  unfold cutV
  rw [e.1, e.2, List.drop_zero, Nat.sub_zero, List.take_of_length_le (Nat.le_refl _)]
  exact hx
def rCatD : R2 := fun x y H Q => ∃ G a b xs ys, x = .ref a ∧ y = .ref b ∧ Same G H ∧ G a = some (.tup xs) ∧ G b = some (.tup ys) ∧ xs.length + ys.length ≤ sizeLine ∧ ∀ p H' G', Grow H G H' G' → G' p = some (.tup (xs ++ ys)) → Q (.ref p) H'
theorem aCatD : OpR X (binaryOp .Add) rCatD := by
  intro pins s σ H x y v u Q I rx ry h
  obtain ⟨G, a, b, xs, ys, rfl, rfl, sG, h1, h2, l, q⟩ := h
  refine op_catA pins s σ H _ _ v u Q I rx ry ⟨a, b, xs, ys, rfl, rfl, .of (sG _ _ h1), .of (sG _ _ h2), l, fun e => q b H G (Grow.refl sG) ?_, fun _ e => q a H G (Grow.refl sG) ?_, fun _ _ p hp => q p _ _ (Grow.new sG hp) upd_same⟩
  · subst e
    exact h2
  · subst e
    rw [List.append_nil]
    exact h1
def tRevD (te : TE) : TE := fun σ H Q => te σ H fun x H1 => ∃ G a xs, x = .ref a ∧ Same G H1 ∧ G a = some (.tup xs) ∧ ∀ p H' G', Grow H1 G H' G' → G' p = some (.tup xs.reverse) → Q (.ref p) H'
end
end Vf
namespace Vf
open PySem L2 PyProof.Rows PySem.Spec
/-! ## lists that are grown step by step, beside a part -/
theorem Grow.at_ {H G H' : Hp} {p : Addr} {o : HO} (s0 : Same G H) (s : Same H H') (n : H p = none) (e : H' p = some o) : Grow H G H' (upd G p o) := by
  refine ⟨s, same_upd (s0.free n), fun b u eb => ?_, fun b h1 h2 => ?_⟩
  · by_cases hb : b = p
    · subst hb
      rw [upd_same] at eb
      rw [e]
      exact eb
    · rw [upd_ne hb] at eb
      exact s _ _ (s0 _ _ eb)
  · rw [upd_ne fun z => h1 (by rw [z]; exact n)]
    exact h2
theorem Grow.same {H G H' : Hp} (s0 : Same G H) (s : Same H H') : Grow H G H' G := ⟨s, Same.refl G, s0.trans s, Only.refl H G⟩
theorem Grow.setp {H G H1 G1 : Hp} {p : Addr} {o : HO} (g : Grow H G H1 G1) (n : H p = none) (ng : G1 p = none) : Grow H G (upd H1 p o) G1 :=
  ⟨fun b u e => by
    rw [upd_ne fun z => by rw [z, n] at e; cases e]
    exact g.big b u e, g.part, fun b u e => by
    rw [upd_ne fun z => by rw [z, ng] at e; cases e]
    exact g.sub b u e, g.only⟩
def noHp : Hp := fun _ => none
theorem noHp_sub (H : Hp) : Same noHp H := fun _ _ e => by cases e
/-- a new list of things that lie in a part and in what is new -/
def GotL (H G : Hp) (ds : List PyData) (Q : VK) : Prop := ∀ (p : Addr) (xs : List V) (H1 H2 G' : Hp), Grow H G H1 G' → DvAll G' xs ds → H1 p = none → Same H1 H2 → H2 p = some (.lst xs) → Q (.ref p) H2
/-- a list under way: at p, apart from the part -/
structure Lst (H H1 G1 : Hp) (p : Addr) (ds : List PyData) : Prop where
  new : H p = none
  grow : Grow H noHp H1 G1
  out : G1 p = none
  has : ∃ xs, H1 p = some (.lst xs) ∧ DvAll G1 xs ds
theorem Lst.more {H H1 G1 H2 G2 : Hp} {p : Addr} {ds : List PyData} (l : Lst H H1 G1 p ds) (g : Grow H1 G1 H2 G2) : Lst H H2 G2 p ds := by
  obtain ⟨xs, e, h⟩ := l.has
  exact ⟨l.new, l.grow.trans g, g.only p (by rw [e]; nofun) l.out, xs, g.big _ _ e, h.same g.part⟩
end Vf
namespace Vf
open PySem L2 PyProof.Rows PySem.Spec
/-! ## what is written out, the data of its names told where it is run -/
def HasE (σ : L2.St) (G : Hp) (env : Nat → PyData) : List Nat → Prop
  | [] => True
  | i :: r => (∃ v, σ[i]? = some (some v) ∧ Dv G v (env i)) ∧ HasE σ G env r
theorem HasE.same {σ : L2.St} {G G' : Hp} {env : Nat → PyData} (s : Same G G') : ∀ {vs : List Nat}, HasE σ G env vs → HasE σ G' env vs
  | [], _ => trivial
  | _ :: _, ⟨⟨v, e, h⟩, t⟩ => ⟨⟨v, e, h.same s⟩, t.same s⟩
theorem HasE.app {σ : L2.St} {G : Hp} {env : Nat → PyData} : ∀ {vs ws : List Nat}, HasE σ G env (vs ++ ws) → HasE σ G env vs ∧ HasE σ G env ws
  | [], _, h => ⟨trivial, h⟩
  | _ :: _, _, ⟨a, t⟩ => ⟨⟨a, t.app.1⟩, t.app.2⟩
abbrev Fd := (Nat → PyData) → PyData
abbrev Fds := (Nat → PyData) → List PyData
def tE (vs : List Nat) (F : Fd) : TE := fun σ H Q => ∃ (env : Nat → PyData) (G : Hp), Same G H ∧ HasE σ G env vs ∧ ∀ x H' G', Grow H G H' G' → Dv G' x (F env) → Q x H'
def tEs (vs : List Nat) (F : Fds) : TA := fun σ H Q => ∃ (env : Nat → PyData) (G : Hp), Same G H ∧ HasE σ G env vs ∧ ∀ xs H' G', Grow H G H' G' → DvAll G' xs (F env) → Q xs H'
def tEL (vs : List Nat) (F : Fds) : TE := fun σ H Q => ∃ (env : Nat → PyData) (G : Hp), Same G H ∧ HasE σ G env vs ∧ ∀ p xs H' G', Grow H G H' G' → DvAll G' xs (F env) → H' p = none → Q (.ref p) (upd H' p (.lst xs))
section
variable {X : Cx} {pos : Pos} {e : Expr} {es : List Expr} {vs ws : List Nat} {F : Fd} {Fs : Fds}
theorem wE_con {v : V} {d : PyData} (h : PE X e (tC v)) (k : ∀ H, Dv H v d) : PE X e (tE [] fun _ => d) := peTo h fun σ H Q ⟨env, G, s, _, q⟩ => q v H G (Grow.refl s) (k G)
theorem wE_var {i : Nat} (h : PE X e (tVar i)) : PE X e (tE [i] fun env => env i) := peTo h fun σ H Q ⟨env, G, s, ⟨⟨v, e, hv⟩, _⟩, q⟩ => ⟨v, e, q v H G (Grow.refl s) hv⟩
theorem wEs_nil : PA X [] (tEs [] fun _ => []) := paTo pa_nil fun σ H Q ⟨env, G, s, _, q⟩ => q [] H G (Grow.refl s) .nil
theorem wEs_cons (h : PE X e (tE vs F)) (t : PA X es (tEs ws Fs)) (hs : starEach (e :: es) X.env = (false, eval e X.env) :: starEach es X.env := by rfl) : PA X (e :: es) (tEs (vs ++ ws) fun env => F env :: Fs env) :=
  paTo (pa_cons h t hs) fun σ H Q ⟨env, G, s, hv, q⟩ => ⟨env, G, s, hv.app.1, fun x H1 G1 g1 hx => ⟨env, G1, g1.sub, hv.app.2.same g1.part, fun xs H2 G2 g2 hxs => q (x :: xs) H2 G2 (g1.trans g2) (.cons (hx.same g2.part) hxs)⟩⟩
theorem wE_tup {x1} (t : PA X es (tEs vs Fs)) (hl : ∀ env, (Fs env).length ≤ 1000000 := by exact fun _ => Nat.le_of_ble_eq_true rfl) : PE X (.Tuple es x1 pos) (tE vs fun env => .tuple (Fs env)) :=
  peTo (pe_tup t) fun σ H Q ⟨env, G, s, hv, q⟩ => ⟨env, G, s, hv, fun xs H1 G1 g1 hxs => ⟨lineLe (by rw [hxs.len]; exact hl env), fun p hp => q (.ref p) _ _ (g1.trans (Grow.new g1.sub hp)) (.tup upd_same (hxs.same (same_upd (g1.sub.free hp))))⟩⟩
theorem wE_lst (t : PA X es (tEs vs Fs)) (hl : ∀ env, (Fs env).length ≤ 1000000 := by exact fun _ => Nat.le_of_ble_eq_true rfl) : PE X (.List es pos) (tE vs fun env => .list (Fs env)) :=
  peTo (pe_lst t) fun σ H Q ⟨env, G, s, hv, q⟩ => ⟨env, G, s, hv, fun xs H1 G1 g1 hxs => ⟨lineLe (by rw [hxs.len]; exact hl env), fun p hp => q (.ref p) _ _ (g1.trans (Grow.new g1.sub hp)) (.lst upd_same (hxs.same (same_upd (g1.sub.free hp))))⟩⟩
theorem wEL (t : PA X es (tEs vs Fs)) (hl : ∀ env, (Fs env).length ≤ 1000000 := by exact fun _ => Nat.le_of_ble_eq_true rfl) : PE X (.List es pos) (tEL vs Fs) :=
  peTo (pe_lst t) fun σ H Q ⟨env, G, s, hv, q⟩ => ⟨env, G, s, hv, fun xs H1 G1 g1 hxs => ⟨lineLe (by rw [hxs.len]; exact hl env), fun p hp => q p xs H1 G1 g1 hxs hp⟩⟩
theorem wE_of {d : PyData} (h : PE X e (tD [] d)) : PE X e (tE [] fun _ => d) := peTo h fun σ H Q ⟨env, G, s, _, q⟩ => ⟨G, s, trivial, q⟩
theorem wE_dic1 {k : Int} {j : Nat} {p1 : Pos} (h : PE X e (tE vs F)) : PE X (.Dict [some (.Constant (.int k) j p1)] [e] pos) (tE vs fun env => .dict [(.int k, F env)]) := by
  refine peTo (pe_disp (pps_cons pe_int h pps_nil) (by rfl) (by rfl) (fun z => by cases z) (Nat.succ_le_succ (Nat.zero_le _))) fun σ H Q ⟨env, G, s, hv, q⟩ p hp => ?_
  have ng : G p = none := s.free hp
  have s1 : Same G (upd H p (.dK [])) := s.trans (same_upd hp)
  refine ⟨env, G, s1, hv, fun y H2 G2 g2 hy => ?_⟩
  have n2 : G2 p = none := g2.only p (by rw [upd_same]; nofun) ng
  refine ⟨g2.big _ _ upd_same, [(Sum.inl k, y)], rfl, Nat.succ_le_succ (Nat.zero_le _), ?_⟩
  show Q (.ref p) (upd H2 p (.dK [(Sum.inl k, y)]))
  refine q (.ref p) _ (upd G2 p (.dK [(Sum.inl k, y)])) ⟨fun b u e => ?_, g2.part.trans (same_upd n2), fun b u e => ?_, fun b h1 h2 => ?_⟩ (.dic (ds := [F env]) upd_same (.cons (hy.same (same_upd n2)) .nil))
  · have hb : b ≠ p := fun z => by rw [z, hp] at e; cases e
    rw [upd_ne hb]
    exact g2.big _ _ (same_upd hp _ _ e)
  · by_cases hb : b = p
    · subst hb
      rw [upd_same] at e ⊢
      exact e
    · rw [upd_ne hb] at e ⊢
      exact g2.sub b u e
  · have hb : b ≠ p := fun z => h1 (by rw [z]; exact hp)
    rw [upd_ne hb]
    exact g2.only b (fun z => h1 ((same_upd hp).free z)) h2
end
end Vf
namespace Vf
open PySem L2 PyProof.Rows PySem.Spec PySem.Froz
/-! ## sets of texts, grown text by text -/
def ins (l : List Str) (k : Str) : List Str := if k ∈ l then l else k :: l
theorem ins_len (l : List Str) (k : Str) : (ins l k).length ≤ l.length + 1 := by
  unfold ins
  split
  · omega
  · simp
theorem ins_nodup {l : List Str} (h : l.Nodup) (k : Str) : (ins l k).Nodup := by
  unfold ins
  split
  · exact h
  · next n => exact List.nodup_cons.mpr ⟨n, h⟩
theorem ins_mem {l : List Str} {k x : Str} : x ∈ ins l k ↔ x = k ∨ x ∈ l := by
  unfold ins
  split
  · next m => exact ⟨.inr, fun h => h.elim (fun e => e ▸ m) id⟩
  · exact List.mem_cons
/-- a table whose places rise, of a maker that is known where the order is not the world's -/
def Led (w : World) (t : SetTable) : Prop := Ris t.place.toList ∧ (w.params.followText "set-order" = true ∨ t.led = true)
theorem led_tail {w : World} {ep : Nat} {es : Array (Int × Value)} {t : SetTable} {was : Bool} (r : Led w t) : Led w (tailTx ep es t was).2.2 := by
  unfold tailTx
  split
  · refine ⟨relayAll_ris _ _ _, r.2.imp id fun z => ?_⟩
    show (relayAll t es (SetTable.grown es.size)).2.1.led = true
    rw [relayAll_led, z]
  · exact r
theorem led_plain {w : World} {t : SetTable} (r : Led w t) : Led w (if t.plain = true then { t with plain := false } else t) := by
  split
  · exact ⟨r.1, r.2⟩
  · exact r
theorem led_add {w : World} {D : SD} (h : Int) (v : Value) (r : Led w D.2.2) : Led w (addTx h v D).2.2 :=
  led_tail (led_plain ⟨layNew_ris D.2.2 D.1 h v r.1, r.2.imp id fun z => by rw [layNew_led, z]⟩)
structure Txs (P : Program) (w : World) (h : Heap) (a : Addr) (l : List Str) : Prop where
  ex : ∃ D : SD, h.get? a = some (sObj "set" D) ∧ TxOk P w D l ∧ Led w D.2.2
  nd : l.Nodup
section
variable {P : Program} {w : World} {A : Around} {E : Value → Shared → Prop} {s : Shared} {a : Addr} {l : List Str}
theorem Txs.at_ {h h' : Heap} (R : Txs P w h a l) (k : ∀ o, h.get? a = some o → h'.get? a = some o) : Txs P w h' a l := by
  obtain ⟨⟨D, e, r⟩, n⟩ := R
  exact ⟨⟨D, k _ e, r⟩, n⟩
theorem Txs.type {R : Txs P w s.heap a l} : s.TypeIs (.ref a) "set" := by
  obtain ⟨⟨D, e, _⟩, _⟩ := R
  exact ⟨_, e, rfl⟩
/-- what is there already -/
theorem had_x {T : String} {D : SD} {k : Str} {u : Tok} {Q : Bool → Shared → Prop} (ho : s.heap.get? a = some (sObj T D)) (F : TxOk P w D l) (hk : k ∈ l) (hb : l.length < scanBound) (h : Q false s) :
    wpAny (model P w) A (setAddHashed a (.str k u) (hashStr w k)) Q E s := by
  obtain ⟨es, ep, t⟩ := D
  have sz : es.size = l.length := F.sz
  have el : ElemsOf (strKind P w) es.toList := F.el
  have dd : (sObj T (es, ep, t)).data = .set es ep t := rfl
  obtain ⟨e, he, q⟩ := (F.mem k).mp hk
  obtain ⟨j, hj⟩ : ∃ j, List.findIdx? (fun e => (strKind P w).is k e.2) es.toList = some j := by
    cases f : List.findIdx? (fun e => (strKind P w).is k e.2) es.toList with
    | some j => exact ⟨j, rfl⟩
    | none =>
      have := List.findIdx?_eq_none_iff.mp f e he
      rw [q] at this
      cases this
  unfold setAddHashed
  refine wpAny_holding ?_
  unfold setAddHashedIn
  refine wpAny_bind (wpAny_setState_of ho dd F.fit ?_)
  dsimp only
  rw [byScan_of (knd := strKind P w) (x := Value.str k u) rfl (by rw [sz]; exact hb) el, if_pos rfl]
  unfold setAddByScan
  refine wpAny_bind (wpAny_bind (wpAny_rule (wpAny_bind (wpAny_setScan_of (knd := strKind P w) (k := k) (is_str k u) ho dd F.fit el ?_))))
  rw [hj]
  exact wpAny_pure (wpAny_pure h)
theorem grow_x {k : Str} {u : Tok} {Q : Bool → Shared → Prop} (R : Txs P w s.heap a l) (hb : l.length + 1 < scanBound) (h : ∀ b h', Heap.SameBut a s.heap h' → Txs P w h' a (ins l k) → Q b { s with heap := h' }) :
    wpAny (model P w) A (setAddHashed a (.str k u) (hashStr w k)) Q E s := by
  obtain ⟨⟨D, e, F, r⟩, n⟩ := R
  by_cases hk : k ∈ l
  · refine had_x e F hk (by omega) (h false s.heap (Heap.SameBut.refl a s.heap) ?_)
    rw [ins, if_pos hk]
    exact ⟨⟨D, e, F, r⟩, n⟩
  · refine add_x e F hk hb (h true _ (Heap.SameBut.update ..) ?_)
    rw [ins, if_neg hk]
    exact ⟨⟨_, get_upd _ e rfl, add_ok u F, led_add _ _ r⟩, List.nodup_cons.mpr ⟨hk, n⟩⟩
theorem grow_add {k : Str} {u : Tok} {Q : Bool → Shared → Prop} (R : Txs P w s.heap a l) (hb : l.length + 1 < scanBound) (h : ∀ b h', Heap.SameBut a s.heap h' → Txs P w h' a (ins l k) → Q b { s with heap := h', toks := s.toks + 1 }) :
    wpAny (model P w) A (setAdd a (.str k u)) Q E s := by
  unfold setAdd
  refine wpAny_holding (wpAny_bind ((strKind P w).pyHash (is_str k u) ?_))
  exact grow_x (s := { s with toks := s.toks + 1 }) R hb h
/-- D.add(k) -/
theorem grow_call {k : Str} {u : Tok} {Q : Value → Shared → Prop} (R : Txs P w s.heap a l) (hb : l.length + 1 < scanBound) (h : ∀ h', Heap.SameBut a s.heap h' → Txs P w h' a (ins l k) → Q .none { s with heap := h', toks := s.toks + 1 }) :
    wpAny (model P w) A (call (.builtin "set.add") [.ref a, .str k u]) Q E s := by
  refine wpAny_call_entry PySem.F.slot_set_add (Txs.type (R := R)) PySem.F.entry_set_add ?_ (PySem.F.args_set_add_2 _ _)
  unfold Builtin.«set.add»
  unfold Builtin.Frozenset.oneOther Builtin.Frozenset.addrOf
  simp only [List.isEmpty_nil, bind_assoc]
  refine wpAny_bind (wpAny_pure ?_)
  try dsimp only
  refine wpAny_bind (wpAny_pure ?_)
  try dsimp only
  refine wpAny_bind (grow_add R hb fun b h' sb r => ?_)
  show wpAny _ _ (ret Value.none) _ _ _
  exact wpAny_pure ⟨_, rfl, h h' sb r⟩
theorem Txs.fresh {h : Heap} (e : h.get? a = some { cls := .type "set", dict := none, data := .set #[] 0 (.fresh 0 0 (!w.params.followText "set-order")) }) : Txs P w h a [] := by
  refine ⟨⟨(#[], 0, .fresh 0 0 (!w.params.followText "set-order")), e, TxOk.nil (by rfl), List.Pairwise.nil, ?_⟩, List.nodup_nil⟩
  show w.params.followText "set-order" = true ∨ (!w.params.followText "set-order") = true
  cases w.params.followText "set-order"
  · exact .inr rfl
  · exact .inl rfl
end
end Vf
namespace Vf
open PySem L2 PyProof.Rows PySem.Spec PySem.Froz
/-! ## set(texts), sorted(set of texts) -/
def inss (xs : List Str) : List Str := xs.foldl ins []
theorem inss_end (xs : List Str) (x : Str) : inss (xs ++ [x]) = ins (inss xs) x := by simp [inss, List.foldl_append]
theorem inss_mem : ∀ {xs : List Str} {x : Str}, x ∈ inss xs ↔ x ∈ xs := by
  intro xs x
  have h : ∀ (ys acc : List Str), x ∈ ys.foldl ins acc ↔ x ∈ acc ∨ x ∈ ys := by
    intro ys
    induction ys with
    | nil => simp
    | cons y ys ih =>
      intro acc
      rw [List.foldl_cons, ih, ins_mem, List.mem_cons]
      constructor
      · rintro ((h | h) | h)
        · exact .inr (.inl h)
        · exact .inl h
        · exact .inr (.inr h)
      · rintro (h | h | h)
        · exact .inl (.inr h)
        · exact .inl (.inl h)
        · exact .inr h
  simpa [inss] using h xs []
theorem inss_nodup (xs : List Str) : (inss xs).Nodup := by
  have h : ∀ (ys acc : List Str), acc.Nodup → (ys.foldl ins acc).Nodup := by
    intro ys
    induction ys with
    | nil => exact fun _ h => h
    | cons y ys ih => exact fun acc h => ih _ (ins_nodup h y)
  exact h xs [] List.nodup_nil
theorem inss_len (xs : List Str) : (inss xs).length ≤ xs.length := by
  have h : ∀ (ys acc : List Str), (ys.foldl ins acc).length ≤ acc.length + ys.length := by
    intro ys
    induction ys with
    | nil => exact fun acc => Nat.le_refl _
    | cons y ys ih =>
      intro acc
      have h1 := ih (ins acc y)
      have h2 := ins_len acc y
      rw [List.foldl_cons, List.length_cons]
      omega
  simpa [inss] using h xs []
/-- the set of texts at a -/
def TxO (P : Program) (w : World) (a : Addr) (l : List Str) : HO := .ext fun h => Txs P w h a l
theorem txo_ok {P : Program} {w : World} {H : Hp} {h : Heap} {a : Addr} {l : List Str} (R : Txs P w h a l) : ObjOk P w H h a (TxO P w a l) := by
  obtain ⟨D, e, _⟩ := R.ex
  exact ⟨R, ⟨_, e⟩, fun h1 h2 p k => Txs.at_ p k⟩
section
variable {P : Program} {w : World} {A : Around} {E : Value → Shared → Prop} {s : Shared} {I : Addr} {fp wr : List Addr} {G : Array GenState → Array GenState → Prop} {n : Nat} {Pv : Nat → Value → Prop} {St : Nat → Shared → Prop} {R : Result → Shared → Prop}
/-- the rest of a row of texts, taken into the set at S -/
theorem into_set (W : WalksS P w A.in1 I fp wr G n Pv St) (S : Addr) (hS : S ∉ fp) (xs : List Str) (hn : xs.length = n) (hb : n + 1 < scanBound) (hv : ∀ i v, Pv i v → ∃ t, v = .str (xs.getD i Str.empty) t) :
    ∀ (k i : Nat) (s : Shared), i + k = n → St i s → Txs P w s.heap S (inss (xs.take i)) → (∀ s', Moved (S :: wr) G s s' → Txs P w s'.heap S (inss xs) → R (.ok (.ret .none)) s') →
      codeAny (model P w) A (.builtin "set.update.loop" ⟨[.ref S, .ref I], []⟩) R s := by
  have nw : S ∉ wr := fun z => hS (W.sub _ z)
  have up : ∀ b ∈ wr, b ∈ S :: wr := fun b z => .tail _ z
  intro k
  induction k with
  | zero =>
    intro i s e st hs q
    refine codeAny_builtin PyProof.Rows.F.entry_set_update_loop ?_
    rw [Around.under_plainId PyProof.Rows.F.plain_set_update_loop _]
    have ei : i = n := e
    subst ei
    rw [← hn, List.take_length] at hs
    refine wpAny_bind (W.done s _ _ st fun s' hm => ?_)
    exact wpAny_pure (q s' (hm.mono up) (hs.at_ fun o e => hm.heap S o nw e))
  | succ k ih =>
    intro i s e st hs q
    have hi : i < n := by omega
    refine codeAny_builtin PyProof.Rows.F.entry_set_update_loop ?_
    rw [Around.under_plainId PyProof.Rows.F.plain_set_update_loop _]
    refine wpAny_bind (W.item i s _ _ hi st fun v s' hp st' hm => ?_)
    obtain ⟨t, rfl⟩ := hv i v hp
    have hs' : Txs P w s'.heap S (inss (xs.take i)) := hs.at_ fun o e => hm.heap S o nw e
    have et : xs.take (i + 1) = xs.take i ++ [xs.getD i Str.empty] := by
      have hx : i < xs.length := by omega
      rw [List.take_add_one, List.getD_eq_getElem?_getD, List.getElem?_eq_getElem hx]
      rfl
    have hl := inss_len (xs.take i)
    rw [List.length_take] at hl
    refine wpAny_bind (wpAny_holding (grow_add hs' (by omega) fun b h' sb r => ?_))
    rw [← inss_end, ← et] at r
    refine wpAny_pure ⟨plainId_quiet PyProof.Rows.F.plain_set_update_loop _, ih (i + 1) _ (by omega) (W.frame _ s' _ _ st' (Nat.le_succ _) fun c hc o e => ?_) r fun s2 hm2 hs2 => ?_⟩
    · exact (sb.2 c fun z => hS (z ▸ hc)).trans e
    · exact q s2 (Moved.trans W.gtrans ((hm.mono up).then_heap (Nat.le_succ _) fun c o hc e => (sb.2 c fun z => hc (z ▸ List.mem_cons_self)).trans e) hm2) hs2

set_option maxHeartbeats 4000000 in
/-- set(l), l a list of texts -/
theorem set_of_texts {E : Value → Shared → Prop} {s : Shared} {l : Addr} {items : Array Value} {xs : List Str} {Q : Value → Shared → Prop} (hh : A.handled = none) (hl : s.heap.IsList l items) (hx : StrsAre items.toList xs) (hb : xs.length + 1 < scanBound)
    (h : ∀ (h' : Heap) (tk : Nat), Txs P w h' s.heap.objs.size (inss xs) → (∀ b o, s.heap.get? b = some o → h'.get? b = some o) → Q (.ref s.heap.objs.size) { s with heap := h', toks := tk }) :
    wpAny (model P w) A (call (.type "set") [.ref l]) Q E s := by
  obtain ⟨c, tl, mro⟩ := PySem.F.called_set.mro
  have made := PySem.F.called_set.made
  have sub := PySem.F.called_set.sub
  refine wpAny_call (codeAny_of_tree ?_)
  show wpAny (model P w) _ (callAny (.type "set") _) _ _ s
  refine wpAny_pure ⟨Code.quiet_builtin _ (by decide +kernel), codeAny_builtin PySem.F.entry_type_call ?_⟩
  rw [Around.under_plain (weight_type_call_type "set" [.ref l] []) rfl]
  have no1 := PySem.F.called_set.notType
  have no2 := PySem.F.called_set.canCreate
  have ok := PySem.F.typeCall_set_1 (.ref l)
  repeat any_goals first | assumption | wp_step
  generalize hO : ({ cls := .type "set", dict := none, data := .set #[] 0 (.fresh 0 0 (!w.params.followText "set-order")) } : Obj) = O
  refine codeAny_mono (code_set_led1 (.ref l) (E := E) (Q₁ := fun obj s1 => obj = .ref s.heap.objs.size ∧ s1 = { s with heap := s.heap.push O }) ⟨rfl, by rw [hO]⟩) fun r s1 hr => ?_
  rcases r with e | fl
  · exact hr
  match fl, hr with
  | .ret obj, hr =>
    obtain ⟨rfl, rfl⟩ := hr
    have hc : O.cls = .type "set" := by rw [← hO]
    have hf : O.isFreed = false := by rw [← hO]; rfl
    have hS : (s.heap.push O).get? s.heap.objs.size = some O := Heap.get?_push_size _ hf
    have hT : Shared.TypeIs { s with heap := s.heap.push O } (.ref s.heap.objs.size) "set" := ⟨O, hS, hc⟩
    have li := PySem.F.called_set.init.lookup
    have bi := PySem.F.called_set.init.bind (.ref s.heap.objs.size)
    repeat any_goals first | assumption | wp_step
    refine codeAny_mono (codeAny_call_builtin (R := wants (fun r s2 => r = .none ∧ ∃ h' tk, s2 = { s with heap := h', toks := tk } ∧ Txs P w h' s.heap.objs.size (inss xs) ∧ ∀ b o, s.heap.get? b = some o → h'.get? b = some o) E)
      PySem.F.called_set.init.plain PySem.F.entry_set_init (check_set_init_1 hT ?_)) fun r2 s2 hr2 => ?_
    · have hl1 : (s.heap.push O).IsList l items := hl.push _
      obtain ⟨⟨lc, ld, lD, ls⟩, ho, c1, nl, d1⟩ := id hl
      simp only at c1 d1
      subst c1 d1
      have ho1 := Heap.get?_push_of_some O ho
      have b1 := PySem.F.sub_list_set
      have b2 := PySem.F.sub_list_frozenset
      have b3 : (Value.type "list" == Value.type "dict") = false := by decide
      subst hO
      unfold Builtin.«set.__init__»
      unfold noKeywords Builtin.Frozenset.updateFrom
      generalize hp : pyIter = PI
      wp_walk
      subst hp
      generalize hO : ({ cls := .type "set", dict := none, data := .set #[] 0 (.fresh 0 0 (!w.params.followText "set-order")) } : Obj) = O at *
      refine wpAny_pyIter_list (items := items) hl1 ?_
      refine wpAny_bind (wpAny_runValue ?_)
      have ll : l < s.heap.objs.size := Heap.lt_size ho
      have zs : (s.heap.push O).objs.size = s.heap.objs.size + 1 := Heap.size_push ..
      have n1 : l ≠ (s.heap.push O).objs.size := Nat.ne_of_lt (by rw [zs]; exact Nat.lt_succ_of_lt ll)
      have n2 : s.heap.objs.size ∉ [(s.heap.push O).objs.size, l] := by
        simp only [List.mem_cons, List.not_mem_nil, or_false, not_or]
        exact ⟨Nat.ne_of_lt (by rw [zs]; exact Nat.lt_succ_self _), Nat.ne_of_gt ll⟩
      have len : xs.length = items.size := by rw [← StrsAre.len_eq hx, Array.length_toList]
      refine into_set ((Walks.list (show A.in1.in1.in1.handled = none by simp [hh]) _ l n1 items).toS) s.heap.objs.size n2 xs len (by omega) (fun i v hv => SS.strs_at hx i v (by rw [Array.getElem?_toList]; exact hv)) items.size 0 _ (Nat.zero_add _)
        ⟨⟨_, Heap.get?_push_size _ rfl, rfl, rfl⟩, hl1.push _⟩ (Txs.fresh (by rw [Heap.get?_push_of_some _ hS, hO])) fun s' hm r => ?_
      obtain ⟨h', g', d', tk', os'⟩ := s'
      obtain rfl : g' = s.gens := hm.gens
      obtain rfl : d' = s.drawn := hm.drawn
      obtain rfl : os' = s.os := hm.os
      show wpAny _ _ _ _ _ _
      refine wpAny_pure ?_
      show wpAny _ _ (ret Value.none) _ _ _
      refine wpAny_pure ⟨rfl, h', tk', rfl, r, fun b o e => ?_⟩
      have lb := Heap.lt_size e
      refine hm.heap b o ?_ (Heap.get?_push_of_some _ (Heap.get?_push_of_some _ e))
      simp only [List.mem_cons, List.not_mem_nil, or_false, not_or]
      exact ⟨Nat.ne_of_lt lb, Nat.ne_of_lt (by rw [zs]; exact Nat.lt_succ_of_lt lb)⟩
    · rcases r2 with e | fl2
      · exact hr2
      · match fl2, hr2 with
        | .ret r3, hr2 =>
          obtain ⟨rfl, h', tk, rfl, q1, q2⟩ := hr2
          repeat any_goals first | assumption | wp_step
          exact h _ _ q1 q2
        | .next, hr2 => exact hr2.elim
        | .brk, hr2 => exact hr2.elim
        | .cont, hr2 => exact hr2.elim
  | .next, hr => exact hr.elim
  | .brk, hr => exact hr.elim
  | .cont, hr => exact hr.elim
end
end Vf
namespace Vf
open PySem L2 PyProof.Rows PySem.Spec PySem.Froz
/-! ## sets of texts over the hand layer -/
def rSetS (K : PySem.W.Frag) (P : Program) (w : World) : List V → Hp → VK → Prop := fun vs H Q => ∃ (a : Addr) (xs : List Str), vs = [V.ref a] ∧ SqL K H a (xs.map V.str) ∧ xs.length + 1 < scanBound ∧ ∀ p, H p = none → Q (.ref p) (upd H p (TxO P w p (inss xs)))
def rSortedTx (P : Program) (w : World) : List V → Hp → VK → Prop := fun vs H Q => ∃ (a : Addr) (l : List Str), vs = [V.ref a] ∧ H a = some (TxO P w a l) ∧ l.length < 64 ∧ ∀ (ys : List Str) (p : Addr), ys.Perm l → sortedS ys = true → H p = none → Q (.ref p) (upd H p (.lst (ys.map V.str)))
theorem shared_same {s s' : Shared} (o : s'.os = s.os) : s' = { s with heap := s'.heap, gens := s'.gens, drawn := s'.drawn, toks := s'.toks } := by
  obtain ⟨h', g', d', t', o'⟩ := s'
  obtain rfl : o' = s.os := o
  rfl
theorem perm_of {α : Type} [DecidableEq α] : ∀ {l ks : List α}, l.Nodup → (∀ x ∈ l, x ∈ ks) → ks.length ≤ l.length → ks.Perm l
  | [], ks, _, _, h => by
    have : ks = [] := List.length_eq_zero_iff.mp (Nat.le_zero.mp h)
    rw [this]
  | x :: l, ks, n, m, h => by
    obtain ⟨n1, n2⟩ := List.nodup_cons.mp n
    have hx := m x List.mem_cons_self
    have p1 := List.perm_cons_erase hx
    refine p1.trans ((perm_of (ks := ks.erase x) n2 (fun y hy => ?_) ?_).cons x)
    · have : y ≠ x := fun e => n1 (e ▸ hy)
      exact (List.mem_erase_of_ne this).mpr (m y (List.mem_cons_of_mem _ hy))
    · have := p1.length_eq
      simp only [List.length_cons] at this h
      omega
section
variable {X : Cx}
theorem cr_setS (hc : X.calm = true) : CallR X (.type "set") (rSetS X.K X.prog X.w) := by
  intro pins s σ H xs us Q I r h
  obtain ⟨a, xs, rfl, hl, hb, q⟩ := h
  rw [Vals.ref1 r]
  obtain ⟨its, rv, pl, hz⟩ := I.list hl
  refine set_of_texts (P := X.prog) (w := X.w) (I.ok.hd hc) pl.isList (by simpa using rv.strs) hb fun h' tk R k => ?_
  exact ⟨.ref _, _, I.laid (t' := tk) k (Nat.le_refl _) (txo_ok R), rfl, q _ (I.hok.fresh (Nat.le_refl _))⟩
/-- sorted(a set of texts) -/
theorem cr_sortedTx (hc : X.calm = true) : CallR X (.builtin "sorted") (rSortedTx X.prog X.w) := by
  intro pins s σ H xs us Q I r h
  obtain ⟨a, l, rfl, ha, h64, q⟩ := h
  rw [Vals.ref1 r]
  obtain ⟨⟨D, e, F, led⟩, nd⟩ : Txs X.prog X.w s.heap a l := (I.hok a _ ha).1
  obtain ⟨es, ep, t⟩ := D
  have el : ElemsOf (strKind X.prog X.w) es.toList := F.el
  have sz : es.size = l.length := F.sz
  refine Calls.call_function_entry kind_sorted plain_sorted entry_sorted (args_sorted1 _) ?_
  unfold Builtin.«sorted»
  refine wpAny_bind (m := checkCount "sorted" 1 1 _) (wpAny_pure ?_)
  refine wpAny_bind (collect_set (A := X.A.in1) (I.ok.hd hc) ⟨_, e, rfl, rfl⟩ F.fit (by rw [sz]; exact Nat.lt_trans h64 (by decide)) led.1 led.2 fun s1 out k1 z1 g1 o1 pm => ?_)
  obtain ⟨ss, hS, hp⟩ : ∃ ss, StrsAre out ss ∧ ss.Perm l := by
    refine ⟨out.map strOf, strsAre_map out fun v hv => ?_, ?_⟩
    · obtain ⟨x, hx, rfl⟩ := List.mem_map.mp (pm.mem_iff.mp hv)
      obtain ⟨⟨k, hk, _⟩, _⟩ := el x hx
      obtain ⟨u, eu⟩ := Value.isStrOf_shape (x := k) (v := x.2) hk
      exact ⟨k, u, eu⟩
    · refine perm_of nd (fun k hk => ?_) ?_
      · obtain ⟨x, hx, hi⟩ := (F.mem k).mp hk
        obtain ⟨u, eu⟩ := Value.isStrOf_shape (x := k) (v := x.2) hi
        refine List.mem_map.mpr ⟨x.2, pm.mem_iff.mpr (List.mem_map.mpr ⟨x, hx, rfl⟩), ?_⟩
        rw [eu]
        rfl
      · rw [List.length_map, pm.length_eq, List.length_map, Array.length_toList, sz]
        exact Nat.le_refl _
  have ol : out.length = l.length := by rw [pm.length_eq, List.length_map, Array.length_toList, sz]
  rw [shared_same o1]
  refine wpAny_bind (wpAny_newList ?_ (by rw [ol, sizeLine_eq]; omega))
  have hL : (s1.heap.push (seqObj "list" out.toArray 0)).get? s1.heap.objs.size = some (seqObj "list" out.toArray 0) := Heap.get?_push_size _ rfl
  refine wpAny_bind (wpAny_holding (wpAny_call_entry slot_list_sort ⟨_, hL, rfl⟩ entry_list_sort (list_sort_treeK strKind_oneLt (s := { s with heap := s1.heap.push (seqObj "list" out.toArray 0), gens := s1.gens, drawn := s1.drawn, toks := s1.toks }) hL hS.keysOf
    (fun v1 v2 rest e => keyKind_strs (by rw [← e]; exact hS)) (by rw [ol]; exact h64) fun st hp' hs => ⟨_, rfl, ?_⟩) (args_list_sort _)))
  obtain ⟨ys, y1, y2, y3⟩ := sorted_out_str hS hp' hs
  obtain ⟨ep', hat⟩ := sortedHeap_at (vs := out) (out := (arrOf st).map (·.2)) hL
  have len : (ys.map V.str).length ≤ sizeLine := by
    rw [List.length_map, y2.length_eq, hp.length_eq, sizeLine_eq]
    omega
  have np : H s1.heap.objs.size = none := I.hok.fresh z1
  have kp : ∀ b o, s.heap.get? b = some o → (sortedHeap (s1.heap.push (seqObj "list" out.toArray 0)) s1.heap.objs.size out ((arrOf st).map (·.2))).get? b = some o := fun b o e => by
    have e1 := k1 b o e
    have lt := Heap.lt_size e1
    rw [sortedHeap_old (Nat.ne_of_lt lt) (by rw [size_push']; exact Nat.lt_succ_of_lt lt)]
    exact Heap.get?_push_of_some _ e1
  have J : L2.Inv X pins σ (upd H s1.heap.objs.size (.lst (ys.map V.str))) { s with heap := sortedHeap (s1.heap.push (seqObj "list" out.toArray 0)) s1.heap.objs.size out ((arrOf st).map (·.2)), gens := s1.gens, drawn := s1.drawn, toks := s1.toks } :=
    I.call (ch := []) (Un.laid kp z1 np) (I.hok.laid kp z1 (show ObjOk X.prog X.w _ _ _ (.lst (ys.map V.str)) from ⟨len, ((arrOf st).map (·.2)).toList, ep', vals_of_strs y1, by rw [Array.toArray_toList]; exact hat⟩)) (by rw [g1]; exact I.bare) (fun _ z => nomatch z)
  exact wpAny_pure ⟨_, rfl, .ref s1.heap.objs.size, _, J, rfl, q ys _ (y2.trans hp) y3 np⟩
end
end Vf
namespace Vf
open PySem L2 PyProof.Rows PySem.Spec PySem.Froz
/-! ## {a text for .. in .. if ..} -/
def tScT (P : Program) (w : World) (wi : TI) (g : TG) (tt : TT) (te : TE) (vs : List Nat) : TE := fun σ H Q => wi σ H fun J H1 => ∀ D, H1 D = none → ∃ W : Nat → Nat → Hp → Prop, (∃ m, W 0 m (upd H1 D (TxO P w D []))) ∧ ∀ i m H, W i m H →
  (J.stop i H ∧ Q (.ref D) H) ∨ (J.go i H ∧ ∃ N : Hp → Prop, (∀ H', N H' → ∃ m', m' < m ∧ W (i + 1) m' H') ∧ ∀ x H', J.yld i H x H' → g x (wipe σ vs) H' fun σ2 H2 => wipe σ2 vs = wipe σ vs ∧ tt σ2 H2 fun b H3 =>
    if b = true then te σ2 H3 fun y H4 => ∃ (k : Str) (l : List Str), y = .str k ∧ H4 D = some (TxO P w D l) ∧ l.length + 1 < scanBound ∧ N (upd H4 D (TxO P w D (ins l k))) else N H3)
section
variable {X : Cx}
theorem grow_inv {pins : List (Addr × Obj)} {σ : L2.St} {H : Hp} {s : Shared} {E : Value → Shared → Prop} {D : Addr} {l : List Str} {k : Str} {u : Tok} {Q : Value → Shared → Prop} (I : Inv X pins σ H s) (hD : H D = some (TxO X.prog X.w D l)) (hb : l.length + 1 < scanBound)
    (h : ∀ s', Inv X pins σ (upd H D (TxO X.prog X.w D (ins l k))) s' → Q .none s') : wpAny (model X.prog X.w) X.A (call (.builtin "set.add") [.ref D, .str k u]) Q E s := by
  have R : Txs X.prog X.w s.heap D l := (I.hok D _ hD).1
  refine grow_call R hb fun h' sb new => h _ ?_
  have he : ∃ o, h'.get? D = some o := by
    obtain ⟨B, e, _⟩ := new.ex
    exact ⟨_, e⟩
  exact I.write (e := D) (t' := s.toks + 1) (by rw [hD]; trivial) (.inl rfl) (fun b o nb e => (sb.2 b nb).trans e) he (txo_ok new)
theorem pe_scT {elt tg iter : Expr} {ifs : List Expr} {scope : Scope} {own : List (PySem.Str × Nat)} {pos : Pos} {wi : TI} {g : TG} {tt : TT} {te : TE} (hc : X.calm = true) (hN : X.N.Nodup) (hi : PI X tg iter wi) (ok : BlkOk X.N X.env.scope scope own)
    (hg : ∀ (s : Shared) (H : Hp) (C : Addr) (cl : List (PySem.Str × Addr)) (fp : List Addr), PG (X.blk s H scope (compEnvC scope cl C X.env) fp) tg g) (ht : ∀ (s : Shared) (H : Hp) (C : Addr) (cl : List (PySem.Str × Addr)) (fp : List Addr), PTs (X.blk s H scope (compEnvC scope cl C X.env) fp) ifs tt)
    (he : ∀ (s : Shared) (H : Hp) (C : Addr) (cl : List (PySem.Str × Addr)) (fp : List Addr), PE (X.blk s H scope (compEnvC scope cl C X.env) fp) elt te) (hs : ∀ x, foldedSetIterable iter X.env x = pure x := by intro _; rfl) :
    PE X (.SetComp elt [⟨tg, iter, ifs, 0⟩] scope pos) (tScT X.prog X.w wi g tt te (own.map (·.2))) := by
  refine ⟨fun pins s σ H Q I h => ?_⟩
  rw [PpSet.eval_SetComp]
  refine wpAny_comprehension_free (use := none) rfl hs (closure_ok fun y hy e => ?_) ok.kind (fun y hy e => by rw [ok.uniq y hy, e]) (thn (hi.run pins s σ H _ I h) fun _ s1 h1 => thn h1 fun _ s2 h2 => ?_)
  · exact (ok.free y hy e).elim (fun k => I.ok.has _ (.inl k)) fun k => I.ok.has _ (.inr k)
  obtain ⟨it, fp, tn, J, H2, rfl, I2, T, st2, f2, q⟩ := h2
  refine PpSet.newSet_ok (newEnv_comp ?_)
  obtain ⟨D, hD⟩ : ∃ D, s2.heap.objs.size = D := ⟨_, rfl⟩
  rw [hD]
  obtain ⟨W, ⟨m0, w0⟩, turn⟩ := q D (I2.hok.fresh (Nat.le_of_eq hD))
  generalize hO : ({ cls := .type "set", dict := none, data := .set #[] 0 (.fresh 0 0 (!X.w.params.followText "set-order")) } : Obj) = O
  have fO : O.isFreed = false := by rw [← hO]; rfl
  obtain ⟨s3, hs3⟩ : ∃ s3 : Shared, s3 = { s2 with heap := s2.heap.push O } := ⟨_, rfl⟩
  have hh3 : s3.heap = s2.heap.push O := by rw [hs3]
  have up3 : ∀ b o, s2.heap.get? b = some o → s3.heap.get? b = some o := fun b o e => by rw [hh3]; exact Heap.get?_push_of_some _ e
  have I3 : Inv X pins σ (upd H2 D (TxO X.prog X.w D [])) s3 := by
    rw [hs3]
    refine I2.laid (t' := s2.toks) (fun b o e => Heap.get?_push_of_some _ e) (Nat.le_of_eq hD) (txo_ok (.fresh ?_))
    rw [← hD, Heap.get?_push_size _ fO, hO]
  generalize hH3 : upd H2 D (TxO X.prog X.w D []) = H3 at I3 w0
  have f3 : ∀ b ∈ fp, FpOk X pins H3 b ∧ b < s3.heap.objs.size := fun b hb => by
    obtain ⟨o, e, _⟩ := T.obj _ _ st2 b hb
    have lt := Heap.lt_size e
    refine ⟨⟨?_, (f2 b hb).2⟩, by rw [hh3, Heap.size_push]; exact Nat.lt_succ_of_lt lt⟩
    rw [← hH3, upd_ne (by rw [← hD]; exact Nat.ne_of_lt lt)]
    exact (f2 b hb).1
  have st3 : tn 0 s3.heap := T.keep _ _ _ st2 fun b _ o e => up3 b o e
  have I4 := block_start I3 ok hN f3
  have pg := hg s3 H3 s3.heap.objs.size (cellsFrom (s3.heap.objs.size + 1) scope.names (cloFrom X.env.cells scope.names [])) fp
  have pt := ht s3 H3 s3.heap.objs.size (cellsFrom (s3.heap.objs.size + 1) scope.names (cloFrom X.env.cells scope.names [])) fp
  have pe := he s3 H3 s3.heap.objs.size (cellsFrom (s3.heap.objs.size + 1) scope.names (cloFrom X.env.cells scope.names [])) fp
  rw [← hs3]
  show codeAny (model X.prog X.w) X.A (.compStart (.SetComp elt [⟨tg, iter, ifs, 0⟩] scope pos) 0 (.ref it) (.ref D) (compEnvC scope (cellsFrom (s3.heap.objs.size + 1) scope.names (cloFrom X.env.cells scope.names [])) s3.heap.objs.size X.env))
    (compPost (model X.prog X.w) X.A X.xe none (EP X pins σ Q) (.ref D) s3.heap.objs.size) { s3 with heap := pushCells (s3.heap.push { cls := .type "dict", data := .dict #[] }) scope.names }
  obtain ⟨ce, hce⟩ : ∃ ce, ce = compEnvC scope (cellsFrom (s3.heap.objs.size + 1) scope.names (cloFrom X.env.cells scope.names [])) s3.heap.objs.size X.env := ⟨_, rfl⟩
  have loc : ce.locals = s3.heap.objs.size := by rw [hce]; rfl
  rw [← hce] at I4 pg pt pe ⊢
  obtain ⟨s4, hs4⟩ : ∃ s4 : Shared, s4 = { s3 with heap := pushCells (s3.heap.push { cls := .type "dict", data := .dict #[] }) scope.names } := ⟨_, rfl⟩
  rw [← hs4] at I4 ⊢
  have st4 : tn 0 s4.heap := T.keep _ _ _ st3 fun b _ o e => by
    rw [hs4]
    exact pushCells_keeps _ _ _ _ (Heap.get?_push_of_some _ e)
  have pinned : ∀ {σ' : L2.St} {H' : Hp} {s' : Shared}, Inv (X.blk s3 H3 scope ce fp) [] σ' H' s' → (∀ b ∈ fp, H' b = none) → ∀ b ∈ fp, FpOk (X.blk s3 H3 scope ce fp) [] H' b := fun J' n b hb =>
    ⟨n b hb, (J'.ok.exf b hb).1, J'.ok.exfs b hb, .inl hb, fun x c e => (J'.ok.exf b hb).2 x c e, fun p hp => by cases hp⟩
  have loop : codeAny (model X.prog X.w) X.A (.compLoop (.SetComp elt [⟨tg, iter, ifs, 0⟩] scope pos) 0 (.ref it) (.ref D) ce) (compPost (model X.prog X.w) X.A X.xe none (EP X pins σ Q) (.ref D) s3.heap.objs.size) s4 := by
    refine PpSet.compLoopS_any (fun n s' => ∃ i H', Inv (X.blk s3 H3 scope ce fp) [] (wipe σ (own.map (·.2))) H' s' ∧ tn i s'.heap ∧ (∀ b ∈ fp, H' b = none) ∧ W i n H') ?_ m0 ⟨0, H3, I4, st4, fun b hb => (f3 b hb).1.1, w0⟩
    rintro n s5 ⟨i, H5, I5, st5, n5, w5⟩
    rcases turn i n H5 w5 with ⟨stop, fin⟩ | ⟨go, N, hN', step⟩
    · refine thnF (T.done (X.blk s3 H3 scope ce fp) rfl rfl rfl hc i [] s5 _ H5 (fun _ _ => False) I5 (pinned I5 n5) st5 stop) fun r s6 ⟨hr, I6⟩ => ?_
      subst hr
      have I7 : Inv X pins σ H5 s6 := I3.call' (ch := fp) I6.os I6.base I6.hok I6.bare fun b hb => ⟨(f3 b hb).1.2.2.2.1, (f3 b hb).1.2.1, (f3 b hb).1.2.2.2.2.1, (f3 b hb).1.2.2.2.2.2⟩
      have nC : H5 s3.heap.objs.size = none := loc ▸ (I6.free : H5 ce.locals = none)
      obtain ⟨m, hn, _⟩ := I6.loc
      have hn : s6.heap.Ns s3.heap.objs.size m := loc ▸ (hn : s6.heap.Ns ce.locals m)
      refine ⟨m, hn, fun h7 sb => ?_⟩
      obtain ⟨a0, a1, a2, a3, a4, a5⟩ := I3.fpOk (Nat.le_refl _) nC
      exact ⟨.ref D, H5, I7.turned (t' := s6.toks) (fun b o nb e => (sb.2 b nb).trans e) a0 a1 a3 a4 a5, rfl, fin⟩
    · refine thnF (T.item (X.blk s3 H3 scope ce fp) rfl rfl rfl hc i [] s5 _ H5 (fun _ _ => False) I5 (pinned I5 n5) st5 go) fun r s6 ⟨u, hr, h6⟩ => ?_
      subst hr
      refine thnF h6 fun _ s7 ⟨x, H7, I7, r7, y7, st7, n7⟩ => ?_
      have I8 := I7.pinned (pinned I7 n7) (T.obj _ _ st7)
      refine thnF (pg.run _ s7 _ H7 x u _ I8 r7 (step x H7 y7)) fun _ s8 ⟨σ8, H8, I9, hw, q8⟩ => ?_
      refine thnF (pt.run _ s8 σ8 H8 _ I9 q8) fun b s9 ⟨H9, I10, q9⟩ => ?_
      have back : ∀ {s' : Shared} {H' : Hp}, Inv (X.blk s3 H3 scope ce fp) ([] ++ pinsAt fp s7.heap) σ8 H' s' → N H' → ∃ m, m < n ∧ ∃ i H', Inv (X.blk s3 H3 scope ce fp) [] (wipe σ (own.map (·.2))) H' s' ∧ tn i s'.heap ∧ (∀ b ∈ fp, H' b = none) ∧ W i m H' := fun {s' H'} J' nx => by
        obtain ⟨m', lt, w'⟩ := hN' H' nx
        have kept : ∀ b ∈ fp, ∀ o, s7.heap.get? b = some o → s'.heap.get? b = some o ∧ H' b = none := fun b hb o e => by
          have z := J'.pin (b, o) (List.mem_append_right _ (List.mem_append_right _ (mem_pinsAt hb e)))
          exact ⟨z.1, z.2.1⟩
        refine ⟨m', lt, i + 1, H', (J'.unpinned (pins := [])).weak (by rw [← hw, wipe_length]) (fun j v e => ?_), T.keep _ _ _ st7 fun b hb o e => (kept b hb o e).1, fun b hb => ?_, w'⟩
        · rw [← hw] at e
          exact (wipe_some e).1
        · obtain ⟨o, e, _⟩ := T.obj _ _ st7 b hb
          exact (kept b hb o e).2
      cases b with
      | false =>
        rw [if_neg (by decide)] at q9 ⊢
        exact back I10 q9
      | true =>
        rw [if_pos rfl] at q9 ⊢
        refine thnF (pe.run _ s9 σ8 H9 _ I10 q9) fun z s10 ⟨yv, H10, I11, r10, k, l, ey, hD10, hz, nx⟩ => ?_
        subst ey
        obtain ⟨t, rfl⟩ := r10
        exact grow_inv (X := X.blk s3 H3 scope ce fp) I11 hD10 hz fun s11 I12 => back I12 nx
  exact PpSet.codeAny_compStart_set loop (T.self X.A 0 _ _ _ st4 loop)
end
end Vf
namespace Vf
open PySem L2 PyProof.Rows PySem.Spec HT
/-! ## t[:k:-1]: a tuple from its end down to what stands behind k -/
theorem adjust_to {n k : Nat} (h : k < n) : Builtin.Slice.sliceAdjust none (some (k : Int)) (-1) (n : Int) = ((n : Int) - 1, (k : Int)) := by
  unfold Builtin.Slice.sliceAdjust
  simp only [show ((-1 : Int) < 0) = True from eq_true (by decide), if_true]
  rw [if_neg (by omega), Int.min_def, if_pos (by omega)]
theorem places_to {n k : Nat} (h : k < n) : Builtin.Slice.slicePlaces ((n : Int) - 1) (k : Int) (-1) = n - (k + 1) := by
  unfold Builtin.Slice.slicePlaces
  rw [if_neg (by decide)]
  by_cases e : (n : Int) - 1 > k
  · rw [if_pos e, show -(-1 : Int) = 1 by decide, Int.ediv_one]
    omega
  · rw [if_neg e]
    omega
theorem pick_to (xs : Array Value) {k : Nat} (h : k < xs.size) : ((List.range (xs.size - (k + 1))).filterMap fun (m : Nat) => xs[(((xs.size : Int) - 1) + (m : Int) * (-1)).toNat]?) = (xs.toList.drop (k + 1)).reverse := by
  have e1 : ∀ m, m < xs.size - (k + 1) → xs[(((xs.size : Int) - 1) + (m : Int) * (-1)).toNat]? = some (xs.toList.reverse.getD m .none) := by
    intro m hm
    rw [show (((xs.size : Int) - 1) + (m : Int) * (-1)).toNat = xs.size - 1 - m by omega, List.getD_eq_getElem?_getD, List.getElem?_reverse (by rw [Array.length_toList]; omega)]
    simp only [Array.length_toList, Array.getElem?_toList]
    rw [Array.getElem?_eq_getElem (by omega)]
    rfl
  have e2 : ((List.range (xs.size - (k + 1))).filterMap fun (m : Nat) => xs[(((xs.size : Int) - 1) + (m : Int) * (-1)).toNat]?) = (List.range (xs.size - (k + 1))).map fun m => xs.toList.reverse.getD m .none := by
    have all : ∀ l : List Nat, (∀ m ∈ l, m < xs.size - (k + 1)) → (l.filterMap fun (m : Nat) => xs[(((xs.size : Int) - 1) + (m : Int) * (-1)).toNat]?) = l.map fun m => xs.toList.reverse.getD m .none := by
      intro l
      induction l with
      | nil => exact fun _ => rfl
      | cons b l ih => exact fun hl => by rw [List.filterMap_cons, e1 b (hl b List.mem_cons_self), List.map_cons, ih fun m hm => hl m (List.mem_cons_of_mem _ hm)]
    exact all _ fun m hm => List.mem_range.mp hm
  have e3 : (xs.toList.drop (k + 1)).reverse = xs.toList.reverse.take (xs.size - (k + 1)) := by
    rw [List.take_reverse, Array.length_toList, show xs.size - (xs.size - (k + 1)) = k + 1 by omega]
  rw [e2, e3]
  apply List.ext_getElem?
  intro i
  rw [List.getElem?_map]
  by_cases hi : i < xs.size - (k + 1)
  · rw [List.getElem?_range hi, List.getElem?_take, if_pos hi]
    simp only [Option.map_some]
    rw [List.getD_eq_getElem?_getD, List.getElem?_eq_getElem (by rw [List.length_reverse, Array.length_toList]; omega)]
    rfl
  · rw [List.getElem?_eq_none (by rw [List.length_range]; omega), List.getElem?_eq_none (by rw [List.length_take, Array.length_toList]; omega)]
    rfl
section
variable {prog : Program} {w : World} {A : Around} {E : Value → Shared → Prop} {s : Shared}
theorem getItem_tuple_to {t sl : Addr} {items : Array Value} {vu vs : Value} {k : Nat} {Q : Value → Shared → Prop} (ht : IsTup s.heap t items) (hs : s.heap.IsSliceOf sl .none vu vs) (pu : IsPart vu (some (k : Int))) (ps : IsPart vs (some (-1))) (hk : k < items.size)
    (h : Q (.ref s.heap.objs.size) { s with heap := s.heap.push { cls := .type "tuple", data := .seq (items.toList.drop (k + 1)).reverse.toArray } }) (hsz : items.size ≤ sizeLine) : wpAny (model prog w) A (getItem (.ref t) (.ref sl)) Q E s := by
  have fits : sizeOk (.seq (items.toList.drop (k + 1)).reverse.toArray) := by
    show (items.toList.drop (k + 1)).reverse.toArray.size ≤ sizeLine
    rw [List.size_toArray, List.length_reverse, List.length_drop, Array.length_toList]
    omega
  obtain ⟨o, ho, hc, hd⟩ := id hs
  unfold getItem
  try with_reducible refine wpAny_holding ?_
  first | refine wpAny_bind (wpAny_pure ?_) | skip
  refine wpAny_bind (wpAny_sequenceKey ht.typeIs (by decide) (wpAny_bind (wpAny_callSpecial?_slot (name := Str.ofString "__getitem__") ht.typeIs PyProof.Rows.slot_tuple_getitem
    (wpAny_call_entry PyProof.Rows.slot_tuple_getitem ht.typeIs entry_tuple_getitem ?_ (args_tuple_getitem _ _)))))
  show wpAny _ _ (Builtin.Tuple.tupleItemsOf (.ref t) >>= _) _ _ s
  refine wpAny_bind (tupleItemsOf_ ht (wpAny_bind (wpAny_typeOf (T := "slice") ⟨o, ho, hc⟩ ?_)))
  rw [if_pos (by decide)]
  refine wpAny_bind (m := Builtin.Slice.sliceApplied (.ref sl) (pure (items.size : Int))) ?_
  unfold Builtin.Slice.sliceApplied Builtin.Slice.sliceFields
  refine wpAny_bind (wpAny_bind (wpAny_field ho hd (x := .none) rfl (wpAny_bind (wpAny_field ho hd (x := vu) rfl (wpAny_bind (wpAny_field ho hd (x := vs) rfl (wpAny_pure ?_)))))))
  refine wpAny_bind (slicePart_ ps ?_)
  show wpAny _ _ (if ((-1 : Int) == 0) = true then _ else _) _ _ s
  rw [if_neg (by decide)]
  refine wpAny_bind (slicePart_none (wpAny_bind (slicePart_ pu (wpAny_bind (wpAny_pure ?_)))))
  show wpAny _ _ (match Builtin.Slice.sliceAdjust none (some (k : Int)) (-1) (items.size : Int) with | (lo, hi) => pure (lo, (-1 : Int), Builtin.Slice.slicePlaces lo hi (-1))) _ _ s
  rw [adjust_to hk]
  show wpAny _ _ (pure (((items.size : Int) - 1), (-1 : Int), Builtin.Slice.slicePlaces ((items.size : Int) - 1) (k : Int) (-1))) _ _ s
  rw [places_to hk]
  refine wpAny_pure ?_
  have hno : ¬ ((((items.size : Int) - 1) == 0 && (-1 : Int) == 1 && items.size - (k + 1) == items.size) = true) := by
    rw [show ((-1 : Int) == 1) = false from rfl, Bool.and_false, Bool.false_and]
    exact Bool.false_ne_true
  show wpAny _ _ (if (((items.size : Int) - 1) == 0 && (-1 : Int) == 1 && items.size - (k + 1) == items.size) = true then _ else _) _ _ s
  rw [if_neg hno, pick_to items hk]
  first
    | exact wpAny_bind (m := Builtin.Tuple.tupleExact _) (wpAny_newObj_type (wpAny_pure ⟨_, rfl, wpAny_pure h⟩) fits)
    | exact wpAny_bind (m := Builtin.Tuple.tupleExact _) (wpAny_newObj_type (wpAny_bind (wpAny_pure (wpAny_pure ⟨_, rfl, wpAny_pure h⟩))) fits)
    | exact wpAny_bind (wpAny_bind (m := Builtin.Tuple.tupleExact _) (wpAny_newObj_type (wpAny_pure (wpAny_pure ⟨_, rfl, wpAny_pure h⟩)) fits))
    | exact wpAny_bind (wpAny_bind (m := Builtin.Tuple.tupleExact _) (wpAny_newObj_type (wpAny_pure ⟨_, rfl, wpAny_pure h⟩) fits))
end
section
variable {X : Cx}
def tToT (K : PySem.W.Frag) (te tu : TE) : TE := fun σ H Q => te σ H fun x H1 => tPart tu σ H1 fun o H2 => ∃ (a : Addr) (xs : List V) (k : Nat), x = .ref a ∧ o = some ((k : Nat) : Int) ∧ SqT K H2 a xs ∧ k < xs.length ∧ ∀ p, H2 p = none → Q (.ref p) (upd H2 p (.tup (xs.drop (k + 1)).reverse))
theorem pe_toT {e u : Expr} {te tu : TE} {j : Nat} {p1 p2 p3 pos : Pos} (he : PE X e te) (hu : PE X u tu) : PE X (.Subscript e (.Slice none (some u) (some (.UnaryOp .USub (.Constant (.int 1) j p1) p2)) p3) pos) (tToT X.K te tu) := by
  refine ⟨fun pins s σ H Q I h => ?_⟩
  refine Subscript_ (thn (he.run pins s σ H _ I h) fun v s1 ⟨x, H1, I1, r1, q1⟩ => ?_)
  have hst : PO X (some (.UnaryOp .USub (.Constant (.int 1) j p1) p2)) (tPart (tUn (rU fun i => .int (-i)) (tC (.int 1)))) := po_some (pe_un un_neg pe_int)
  refine wpAny_Slice (thn (po_none.run pins s1 σ H1 (fun o H2 => o = none ∧ H2 = H1) I1 ⟨rfl, rfl⟩) fun vl s2 ⟨l, H2, I2, pl, el, e2⟩ => ?_)
  subst el e2
  refine thn ((po_some hu).run pins s2 σ H2 _ I2 q1) fun vu s3 ⟨o, H3, I3, pu, a, xs, k, ex, eo, hx, hk, q⟩ => ?_
  subst ex eo
  cases r1
  refine thn (hst.run pins s3 σ H3 (fun o H4 => o = some (-1) ∧ H4 = H3) I3 ⟨1, rfl, -1, rfl, rfl, rfl⟩) fun vs s4 ⟨o, H4, I4, ps, eo, e4⟩ => ?_
  subst eo e4
  have I5 : L2.Inv X pins σ H4 { s4 with heap := s4.heap.push { cls := .type "slice", data := .fields #[vl, vu, vs] } } := I4.kept (t' := s4.toks) fun b ob q => Heap.get?_push_of_some _ q
  obtain ⟨its, r, ht, hz⟩ := I5.tuple hx
  have hlen := r.length
  cases pl
  show wpAny (model X.prog X.w) X.A (subscriptTail e (.Slice none (some u) (some (.UnaryOp .USub (.Constant (.int 1) j p1) p2)) p3) (.ref a) (.ref s4.heap.objs.size)) (EP X pins σ Q) X.xe { s4 with heap := s4.heap.push { cls := .type "slice", data := .fields #[.none, vu, vs] } }
  refine tail_any (ops := [.ref a, .ref s4.heap.objs.size]) ht.typeIs (PyProof.Rows.slot_tuple_getitem.lookup) ?_ (by with_unfolding_all rfl)
  refine getItem_tuple_to ht (Heap.IsSliceOf.new _ .none vu vs) pu ps (by rw [List.size_toArray]; omega) ?_ (by rw [List.size_toArray]; omega)
  refine ⟨.ref _, _, I5.laid (t' := s4.toks) (o := .tup (xs.drop (k + 1)).reverse) (fun b ob q => Heap.get?_push_of_some _ q) (Nat.le_refl _) ?_, rfl, q _ (I5.hok.fresh (Nat.le_refl _))⟩
  refine ⟨by rw [List.length_reverse, List.length_drop]; omega, _, (r.drop (k + 1)).reverse, ?_⟩
  exact IsTup.new _ _
theorem aToT {K : PySem.W.Frag} (h : X.K = K) {e u : Expr} {te tu : TE} {j : Nat} {p1 p2 p3 pos : Pos} (he : PE X e te) (hu : PE X u tu) : PE X (.Subscript e (.Slice none (some u) (some (.UnaryOp .USub (.Constant (.int 1) j p1) p2)) p3) pos) (tToT K te tu) := h ▸ pe_toT he hu
theorem aSetS {K : PySem.W.Frag} {P : Program} {w : World} (e : X.K = K) (e1 : X.prog = P) (e2 : X.w = w) (hc : X.calm = true) : CallR X (.type "set") (rSetS K P w) := e ▸ e1 ▸ e2 ▸ cr_setS hc
theorem aSortedTx {P : Program} {w : World} (e1 : X.prog = P) (e2 : X.w = w) (hc : X.calm = true) : CallR X (.builtin "sorted") (rSortedTx P w) := e1 ▸ e2 ▸ cr_sortedTx hc
end
section
variable {J : It} {xs : List V} {G : Hp → Prop} {σ : L2.St} {H : Hp} {g : TG} {tt : TT} {te : TE} {vs : List Nat} {L : Addr} {Qd : Hp → Prop} {P : Program} {w : World}
/-- a set of texts made over known items -/
theorem sc_steps (S : Steps J xs G) (Pv : Nat → Hp → Prop) (h0 : Pv 0 (upd H L (TxO P w L []))) (hl : ∀ i H, i ≤ xs.length → Pv i H → G H)
    (hs : ∀ i x H, xs[i]? = some x → Pv i H → g x (wipe σ vs) H fun σ2 H2 => wipe σ2 vs = wipe σ vs ∧ tt σ2 H2 fun b H3 =>
      if b = true then te σ2 H3 fun y H4 => ∃ (k : Str) (l : List Str), y = .str k ∧ H4 L = some (TxO P w L l) ∧ l.length + 1 < scanBound ∧ Pv (i + 1) (upd H4 L (TxO P w L (ins l k))) else Pv (i + 1) H3) (hd : ∀ H, Pv xs.length H → Qd H) :
    ∃ W : Nat → Nat → Hp → Prop, (∃ m, W 0 m (upd H L (TxO P w L []))) ∧ ∀ i m H, W i m H → (J.stop i H ∧ Qd H) ∨
      (J.go i H ∧ ∃ N : Hp → Prop, (∀ H', N H' → ∃ m', m' < m ∧ W (i + 1) m' H') ∧ ∀ x H', J.yld i H x H' → g x (wipe σ vs) H' fun σ2 H2 => wipe σ2 vs = wipe σ vs ∧ tt σ2 H2 fun b H3 =>
        if b = true then te σ2 H3 fun y H4 => ∃ (k : Str) (l : List Str), y = .str k ∧ H4 L = some (TxO P w L l) ∧ l.length + 1 < scanBound ∧ N (upd H4 L (TxO P w L (ins l k))) else N H3) := by
  refine ⟨fun i m H => i + m = xs.length ∧ Pv i H, ⟨xs.length, Nat.zero_add _, h0⟩, fun i m H w => ?_⟩
  obtain ⟨em, p⟩ := w
  have gH := hl i H (by omega) p
  rcases Nat.eq_zero_or_pos m with rfl | hm
  · obtain rfl : i = xs.length := em
    exact .inl ⟨S.stop H gH, hd H p⟩
  · have hi : i < xs.length := by omega
    refine .inr ⟨S.go i H hi gH, Pv (i + 1), fun H' p' => ⟨m - 1, by omega, by omega, p'⟩, fun x H' y => ?_⟩
    obtain ⟨ex, rfl⟩ := S.yld i H x H' hi gH y
    exact hs i x _ ex p
end
end Vf
namespace Vf
open PySem L2 PyProof.Rows PySem.Spec PyProof.Rows.G
/-! ## sorted(a list of rows of whole numbers) that rise already -/
def rowLt (a b : List Int) : Bool := lexLt itemOrd (a.map Sum.inl) (b.map Sum.inl)
theorem rowLt_cons (x y : Int) (r t : List Int) : rowLt (x :: r) (y :: t) = (decide (x < y) || (!decide (y < x) && rowLt r t)) := lex_cons (O := itemOrd) (Sum.inl x) (Sum.inl y) (r.map Sum.inl) (t.map Sum.inl)
theorem rowLt_end {x y : Int} (h : x < y) : ∀ o : List Int, rowLt (o ++ [x]) (o ++ [y]) = true
  | [] => by
    rw [List.nil_append, List.nil_append, rowLt_cons, decide_eq_true h]
    rfl
  | z :: o => by
    rw [List.cons_append, List.cons_append, rowLt_cons, rowLt_end h o, decide_eq_false (Int.lt_irrefl z)]
    rfl
theorem rowLt_more {x y : Int} : ∀ {o p : List Int}, o.length = p.length → rowLt o p = true → rowLt (o ++ [x]) (p ++ [y]) = true
  | [], [], _, h => absurd h Bool.false_ne_true
  | a :: o, b :: p, l, h => by
    rw [rowLt_cons] at h
    rw [List.cons_append, List.cons_append, rowLt_cons]
    cases h1 : decide (a < b) with
    | true => rfl
    | false =>
      rw [h1] at h
      cases h2 : decide (b < a) with
      | true => rw [h2] at h; exact absurd h Bool.false_ne_true
      | false =>
        rw [h2] at h
        rw [rowLt_more (Nat.succ.inj l) h]
        rfl
/-- rows of whole numbers at their places -/
def RowsAt (H : Hp) : List Addr → List (List Int) → Prop
  | [], [] => True
  | a :: as, r :: rs => H a = some (.tup (r.map V.int)) ∧ RowsAt H as rs
  | _, _ => False
def rSortedRows (K : PySem.W.Frag) : List V → Hp → VK → Prop := fun vs H Q => ∃ (a : Addr) (as : List Addr) (rows : List (List Int)), vs = [V.ref a] ∧ SqL K H a (as.map V.ref) ∧ RowsAt H as rows ∧ rows.Pairwise (fun x y => rowLt x y = true) ∧ (2 ≤ rows.length → ∀ r ∈ rows, r ≠ []) ∧ rows.length ≤ 100000 ∧
  ∀ p, H p = none → Q (.ref p) (upd H p (.lst (as.map V.ref)))
theorem vals_refs : ∀ {as : List Addr} {us : List Value}, Vals (as.map V.ref) us → us = as.map Value.ref
  | [], _, .nil => rfl
  | a :: as, _, .cons h t => by
    rw [vals_refs t]
    exact congrArg (· :: _) h
theorem zip_refs : ∀ as : List Addr, (as.map Value.ref).zip (as.map Value.ref) = as.map fun a => ((Value.ref a, Value.ref a) : Keyed)
  | [] => rfl
  | a :: as => congrArg (List.cons ((Value.ref a, Value.ref a) : Keyed)) (zip_refs as)
theorem items_ints : ∀ {r : List Int} {us : List Value} {i : Nat}, Vals (r.map V.int) us → tupItems (fun _ => false) i us = some (r.map Sum.inl)
  | [], _, _, .nil => by simp [tupItems]
  | n :: r, _, i, .cons h t => by
    obtain ⟨k, rfl⟩ := h
    simp only [tupItems, Bool.false_eq_true, if_false, items_ints t, Option.map_some, List.map_cons]
theorem rows_len {H : Hp} : ∀ {as : List Addr} {rs : List (List Int)}, RowsAt H as rs → as.length = rs.length
  | [], [], _ => rfl
  | a :: as, r :: rs, h => congrArg Nat.succ (rows_len h.2)
  | [], _ :: _, h => False.elim h
  | _ :: _, [], h => False.elim h
def kf (h : Heap) (p : Keyed) : List (Int ⊕ List Nat) := (tupKeyC h (fun _ => false) p.1).getD []
theorem pair_tri {α : Type} {R : α → α → Prop} : ∀ {l : List α}, l.Pairwise R → ∀ {p q : α}, p ∈ l → q ∈ l → p = q ∨ R p q ∨ R q p
  | _, .cons h t, p, q, hp, hq => by
    rcases List.mem_cons.mp hp with rfl | hp'
    · rcases List.mem_cons.mp hq with rfl | hq'
      · exact .inl rfl
      · exact .inr (.inl (h _ hq'))
    · rcases List.mem_cons.mp hq with rfl | hq'
      · exact .inr (.inr (h _ hp'))
      · exact pair_tri t hp' hq'
section
variable {X : Cx}
theorem row_key {pins : List (Addr × Obj)} {σ : L2.St} {H : Hp} {s : Shared} (I : L2.Inv X pins σ H s) {a : Addr} {r : List Int} (h : H a = some (.tup (r.map V.int))) : tupKeyC s.heap (fun _ => false) (.ref a) = some (r.map Sum.inl) ∧ ∀ n t, r = n :: t → ∃ f, TupOf s.heap (fun _ => false) (.ref a) f := by
  obtain ⟨_, its, rv, o, ho, hc, m, hd⟩ := I.hok a _ h
  have e1 : isTupObj s.heap (.ref a) = true := by simp [isTupObj, ho, hc]
  refine ⟨?_, fun n t e => ?_⟩
  · unfold tupKeyC
    rw [if_pos e1]
    simp only [tupKey, ho, hd]
    exact items_ints rv
  · subst e
    cases rv with
    | cons hf ht =>
      obtain ⟨k, rfl⟩ := hf
      exact ⟨_, a, o, _, m, rfl, ho, hc, hd, rfl, fun _ => ⟨n, k, rfl⟩, fun z => absurd z Bool.false_ne_true⟩
theorem rows_keys {pins : List (Addr × Obj)} {σ : L2.St} {H : Hp} {s : Shared} (I : L2.Inv X pins σ H s) : ∀ {as : List Addr} {rs : List (List Int)}, RowsAt H as rs → (as.map fun a => ((Value.ref a, Value.ref a) : Keyed)).map (kf s.heap) = rs.map (·.map Sum.inl)
  | [], [], _ => rfl
  | a :: as, r :: rs, h => by
    rw [List.map_cons, List.map_cons, List.map_cons, rows_keys I h.2]
    unfold kf
    rw [(row_key I h.1).1]
    rfl
  | [], _ :: _, h => False.elim h
  | _ :: _, [], h => False.elim h
theorem rows_mem {pins : List (Addr × Obj)} {σ : L2.St} {H : Hp} {s : Shared} (I : L2.Inv X pins σ H s) : ∀ {as : List Addr} {rs : List (List Int)}, RowsAt H as rs → ∀ v ∈ as.map Value.ref, ∃ l, tupKeyC s.heap (fun _ => false) v = some l
  | [], [], _, v, hv => absurd hv List.not_mem_nil
  | a :: as, r :: rs, h, v, hv => by
    rcases List.mem_cons.mp hv with rfl | hv
    · exact ⟨_, (row_key I h.1).1⟩
    · exact rows_mem I h.2 v hv
  | [], _ :: _, h, _, _ => False.elim h
  | _ :: _, [], h, _, _ => False.elim h
theorem rows_tups {pins : List (Addr × Obj)} {σ : L2.St} {H : Hp} {s : Shared} (I : L2.Inv X pins σ H s) : ∀ {as : List Addr} {rs : List (List Int)}, RowsAt H as rs → (∀ r ∈ rs, r ≠ []) → ∃ fs, TupsOf s.heap (fun _ => false) (as.map Value.ref) fs
  | [], [], _, _ => ⟨[], .nil⟩
  | a :: as, r :: rs, h, hn => by
    obtain ⟨fs, t⟩ := rows_tups I h.2 fun x hx => hn x (List.mem_cons_of_mem _ hx)
    obtain ⟨n, t', rfl⟩ := List.exists_cons_of_ne_nil (hn r List.mem_cons_self)
    obtain ⟨f, hf⟩ := (row_key I h.1).2 n t' rfl
    exact ⟨f :: fs, .cons hf t⟩
  | [], _ :: _, h, _ => False.elim h
  | _ :: _, [], h, _ => False.elim h
theorem cr_sortedRows : CallR X (.builtin "sorted") (rSortedRows X.K) := by
  intro pins s σ H vs us Q I r h
  obtain ⟨a, as, rows, rfl, hs, hr, hp, hne, hL, q⟩ := h
  obtain ⟨its, rv, hl, _⟩ := I.list hs
  rw [Vals.ref1 r]
  obtain rfl := vals_refs rv
  have ln := rows_len hr
  have lsz : (as.map Value.ref).length ≤ sizeLine := by rw [List.length_map, ln, sizeLine_eq]; omega
  have fs : 2 ≤ (as.map Value.ref).length → ∃ fs, TupsOf s.heap (fun _ => false) (as.map Value.ref) fs := fun h2 => rows_tups I hr (hne (by rw [List.length_map, ln] at h2; exact h2))
  refine sortedG (κ := tupKindC s.heap fun _ => false) (kd := tuples' true) hl.isList (tupKeys (rows_mem I hr)) (fun s2 k => tupC_ltAt (s := s2) true k) (fun h2 A' E' s2 Q' k hq => ?_) lsz fun st hp' hs' _ => ?_
  · obtain ⟨gs, t⟩ := fs h2
    exact tup_kind (s := s2) (by rw [TupsOf.length t]; omega) (TupsOf.keep k t) hq
  have pl : (pairsOf (as.map Value.ref)).toList = as.map fun a => ((Value.ref a, Value.ref a) : Keyed) := by
    rw [pairsOf_toList]
    exact zip_refs as
  have p1 : (as.map fun a => ((Value.ref a, Value.ref a) : Keyed)).Pairwise fun p q => lexLt itemOrd (kf s.heap p) (kf s.heap q) = true := by
    rw [← List.pairwise_map (f := kf s.heap) (R := fun x y => lexLt itemOrd x y = true), rows_keys I hr, List.pairwise_map]
    exact hp
  have asym : ∀ x y : List (Int ⊕ List Nat), lexLt itemOrd x y = true → lexLt itemOrd y x = false := fun x y h => by
    cases h2 : lexLt itemOrd y x with
    | false => rfl
    | true => exact absurd ((lex_irrefl (O := itemOrd) x).symm.trans (lex_trans (O := itemOrd) x y x h h2)) Bool.false_ne_true
  have hpl : (arrOf st).toList.Perm (as.map fun a => ((Value.ref a, Value.ref a) : Keyed)) := pl ▸ Array.perm_iff_toList_perm.mp hp'
  have sz : (arrOf st).size = (pairsOf (as.map Value.ref)).size := hp'.size_eq
  have e : (arrOf st).toList = as.map fun a => ((Value.ref a, Value.ref a) : Keyed) := by
    refine List.Perm.eq_of_pairwise (le := fun p q => lexLt itemOrd (kf s.heap q) (kf s.heap p) = false) (fun x y hx hy h1 h2 => ?_) ?_ (p1.imp fun {p q} h => asym _ _ h) hpl
    · rcases pair_tri p1 (hpl.mem_iff.mp hx) hy with z | z | z
      · exact z
      · rw [z] at h2; cases h2
      · rw [z] at h1; cases h1
    · rw [List.pairwise_iff_getElem]
      intro i j hi hj hij
      have k := hs' i j (by omega) (by rw [← sz]; exact hj)
      rw [Array.length_toList] at hi hj
      have ki : KK (tupKindC s.heap fun _ => false) (arrOf st) i = kf s.heap (arrOf st).toList[i] := by
        unfold KK
        rw [Array.getElem?_eq_getElem hi]
        rfl
      have kj : KK (tupKindC s.heap fun _ => false) (arrOf st) j = kf s.heap (arrOf st).toList[j] := by
        unfold KK
        rw [Array.getElem?_eq_getElem hj]
        rfl
      rw [ki, kj] at k
      exact k
  have eo : (arrOf st).map (·.2) = (as.map Value.ref).toArray := by
    apply Array.ext'
    rw [Array.toList_map, e, List.map_map, List.toList_toArray]
    rfl
  rw [eo]
  obtain ⟨ep, he'⟩ := PyProof.Rows.sortedAll_at s.heap (as.map Value.ref) (as.map Value.ref).toArray
  refine ⟨.ref _, upd H (s.heap.objs.size + 1) (.lst (as.map V.ref)), I.laid (t' := s.toks) (fun _ _ => PyProof.Rows.sortedAll_old) (Nat.le_succ _) ⟨by rw [List.length_map, ln, sizeLine_eq]; omega, as.map Value.ref, ep, rv, he'⟩, rfl, q _ (I.hok.fresh (Nat.le_succ _))⟩
theorem aSortedRows {K : PySem.W.Frag} (e : X.K = K) : CallR X (.builtin "sorted") (rSortedRows K) := e ▸ cr_sortedRows
end
end Vf
namespace Vf
open PySem L2 PyProof.Rows PySem.Spec StX
section
variable {X : Cx} {e : Expr} {es : List Expr} {te : TE} {t : TA} {p : Pos}
theorem aStar {K : PySem.W.Frag} (h : X.K = K) (he : PE X e te) (hr : PA X es t) (hs : starEach (.Starred e p :: es) X.env = (true, eval e X.env) :: starEach es X.env := by rfl) : PA X (.Starred e p :: es) (tStar K te t) := h ▸ pa_star he hr hs
end
section
variable {X : Cx}
/-- t + u, both of the heap: a tuple of it -/
def rCatM (K : PySem.W.Frag) : R2 := fun x y H Q => ∃ a b xs ys, x = .ref a ∧ y = .ref b ∧ H a = some (.tup xs) ∧ H b = some (.tup ys) ∧ xs.length + ys.length ≤ sizeLine ∧ ∀ (p : Addr) (H' : Hp), Same H H' → H' p = some (.tup (xs ++ ys)) → Q (.ref p) H'
theorem opCatM : OpR X (binaryOp .Add) (rCatM X.K) := by
  intro pins s σ H x y v u Q I rx ry h
  obtain ⟨a, b, xs, ys, rfl, rfl, h1, h2, l, q⟩ := h
  refine op_catA pins s σ H _ _ v u Q I rx ry ⟨a, b, xs, ys, rfl, rfl, .of h1, .of h2, l, fun e => q b H (Same.refl H) ?_, fun _ e => q a H (Same.refl H) ?_, fun _ _ p hp => q p _ (same_upd hp) upd_same⟩
  · subst e
    exact h2
  · subst e
    rw [List.append_nil]
    exact h1
theorem aCatM {K : PySem.W.Frag} (e : X.K = K) : OpR X (binaryOp .Add) (rCatM K) := e ▸ opCatM
end
section
variable {J J1 : It} {xs ys : List V} {G G1 : Hp → Prop} {σ σ2 : L2.St} {H H4 : Hp} {g g1 : TG} {tt tt1 : TT} {te : TE} {wi1 : TI} {vs vs1 : List Nat} {L : Addr} {Qd Nx : Hp → Prop}
/-- a comprehension of two clauses: the first one's walk over known items -/
theorem lc2_steps (S : Steps J xs G) (Pv : Nat → Hp → Prop) (h0 : Pv 0 (upd H L (.lst []))) (hl : ∀ i H, i ≤ xs.length → Pv i H → G H)
    (hs : ∀ i x H, xs[i]? = some x → Pv i H → g x (wipe σ vs) H fun σ2 H2 => wipe σ2 vs = wipe σ vs ∧ tt σ2 H2 fun b H3 =>
      if b = true then wi1 σ2 H3 fun J1 H4 => ∃ W1 : Nat → Nat → Hp → Prop, (∃ m, W1 0 m H4) ∧ ∀ j k H, W1 j k H →
        (J1.stop j H ∧ Pv (i + 1) H) ∨ (J1.go j H ∧ ∃ Nx1 : Hp → Prop, (∀ H', Nx1 H' → ∃ k', k' < k ∧ W1 (j + 1) k' H') ∧ ∀ x H', J1.yld j H x H' → g1 x (wipe σ2 vs1) H' fun σ3 H5 => wipe σ3 vs1 = wipe σ2 vs1 ∧ tt1 σ3 H5 fun b H6 =>
          if b = true then te σ3 H6 fun y H7 => ∃ acc, H7 L = some (.lst acc) ∧ acc.length < sizeLine ∧ Nx1 (upd H7 L (.lst (acc ++ [y]))) else Nx1 H6)
      else Pv (i + 1) H3) (hd : ∀ H, Pv xs.length H → Qd H) :
    ∃ W : Nat → Nat → Hp → Prop, (∃ m, W 0 m (upd H L (.lst []))) ∧ ∀ i m H, W i m H → (J.stop i H ∧ Qd H) ∨
      (J.go i H ∧ ∃ Nx : Hp → Prop, (∀ H', Nx H' → ∃ m', m' < m ∧ W (i + 1) m' H') ∧ ∀ x H', J.yld i H x H' → g x (wipe σ vs) H' fun σ2 H2 => wipe σ2 vs = wipe σ vs ∧ tt σ2 H2 fun b H3 =>
        if b = true then wi1 σ2 H3 fun J1 H4 => ∃ W1 : Nat → Nat → Hp → Prop, (∃ m, W1 0 m H4) ∧ ∀ j k H, W1 j k H →
          (J1.stop j H ∧ Nx H) ∨ (J1.go j H ∧ ∃ Nx1 : Hp → Prop, (∀ H', Nx1 H' → ∃ k', k' < k ∧ W1 (j + 1) k' H') ∧ ∀ x H', J1.yld j H x H' → g1 x (wipe σ2 vs1) H' fun σ3 H5 => wipe σ3 vs1 = wipe σ2 vs1 ∧ tt1 σ3 H5 fun b H6 =>
            if b = true then te σ3 H6 fun y H7 => ∃ acc, H7 L = some (.lst acc) ∧ acc.length < sizeLine ∧ Nx1 (upd H7 L (.lst (acc ++ [y]))) else Nx1 H6)
        else Nx H3) := by
  refine ⟨fun i m H => i + m = xs.length ∧ Pv i H, ⟨xs.length, Nat.zero_add _, h0⟩, ?_⟩
  rintro i m H ⟨em, p⟩
  have gH := hl i H (by omega) p
  cases m with
  | zero =>
    have e : i = xs.length := by omega
    subst e
    exact .inl ⟨S.stop H gH, hd H p⟩
  | succ m =>
    have hi : i < xs.length := by omega
    refine .inr ⟨S.go i H hi gH, Pv (i + 1), fun H' p' => ⟨m, Nat.lt_succ_self _, by omega, p'⟩, fun x H' y => ?_⟩
    obtain ⟨ex, rfl⟩ := S.yld i H x H' hi gH y
    exact hs i x _ ex p
/-- .. the second one's -/
theorem lc2_in (S : Steps J1 ys G1) (Pv : Nat → Hp → Prop) (h0 : Pv 0 H4) (hl : ∀ i H, i ≤ ys.length → Pv i H → G1 H)
    (hs : ∀ i x H, ys[i]? = some x → Pv i H → g1 x (wipe σ2 vs1) H fun σ3 H5 => wipe σ3 vs1 = wipe σ2 vs1 ∧ tt1 σ3 H5 fun b H6 =>
      if b = true then te σ3 H6 fun y H7 => ∃ acc, H7 L = some (.lst acc) ∧ acc.length < sizeLine ∧ Pv (i + 1) (upd H7 L (.lst (acc ++ [y]))) else Pv (i + 1) H6) (hd : ∀ H, Pv ys.length H → Nx H) :
    ∃ W1 : Nat → Nat → Hp → Prop, (∃ m, W1 0 m H4) ∧ ∀ j k H, W1 j k H →
      (J1.stop j H ∧ Nx H) ∨ (J1.go j H ∧ ∃ Nx1 : Hp → Prop, (∀ H', Nx1 H' → ∃ k', k' < k ∧ W1 (j + 1) k' H') ∧ ∀ x H', J1.yld j H x H' → g1 x (wipe σ2 vs1) H' fun σ3 H5 => wipe σ3 vs1 = wipe σ2 vs1 ∧ tt1 σ3 H5 fun b H6 =>
        if b = true then te σ3 H6 fun y H7 => ∃ acc, H7 L = some (.lst acc) ∧ acc.length < sizeLine ∧ Nx1 (upd H7 L (.lst (acc ++ [y]))) else Nx1 H6) := by
  refine ⟨fun i m H => i + m = ys.length ∧ Pv i H, ⟨ys.length, Nat.zero_add _, h0⟩, ?_⟩
  rintro i m H ⟨em, p⟩
  have gH := hl i H (by omega) p
  cases m with
  | zero =>
    have e : i = ys.length := by omega
    subst e
    exact .inl ⟨S.stop H gH, hd H p⟩
  | succ m =>
    have hi : i < ys.length := by omega
    refine .inr ⟨S.go i H hi gH, Pv (i + 1), fun H' p' => ⟨m, Nat.lt_succ_self _, by omega, p'⟩, fun x H' y => ?_⟩
    obtain ⟨ex, rfl⟩ := S.yld i H x H' hi gH y
    exact hs i x _ ex p
end
end Vf
namespace Vf
open PySem L2 PyProof.Rows PySem.Spec
/-! ## max(a list of whole numbers, default = ..) -/
def bst (b : Option Int) (x : Int) : Option Int := some (match b with
  | none => x
  | some m => if m < x then x else m)
def HeldB (b : Option Int) (xs : Array Value) : Prop := match b with
  | none => xs = #[]
  | some m => ∃ t, xs = #[.int m t, .int m t]
def EndB (d v : Value) : Option Int → Prop
  | none => v = d
  | some m => ∃ t, v = .int m t
section
variable {prog : Program} {w : World} {A : Around} {R : Result → Shared → Prop} {I l S : Addr} {its : Array Value} {d : Value}
theorem cmp_gt {x y : Int} {t u : Tok} {s : Shared} {Q E : Value → Shared → Prop} (h : Q (.bool (decide (x > y))) s) : wpAny (model prog w) A (richCompare .Gt (.int x t) (.int y u)) Q E s := by
  have c : CmpOf prog w A .Gt (fun i v => ∃ t, v = .int (if i = 0 then x else y) t) _ := CmpOf.ints_gt (fun i => if i = 0 then x else y) (fun _ _ h => h)
  exact c 0 1 _ _ s Q E ⟨t, rfl⟩ ⟨u, rfl⟩ h
theorem maxd_loop (hh : A.in1.handled = none) (hI : I ≠ S) (hl : l ≠ S) (hne : l ≠ I) : ∀ (r : List Int) (j : Nat) (s : Shared) (b : Option Int) (xs : Array Value) (c : Nat), IntsAre (its.toList.drop j) r → j ≤ its.size →
    s.heap.IsListIter I l j ∧ s.heap.IsList l its → s.heap.get? S = some { cls := .type "list", dict := none, data := .seq xs c, slots := #[] } → HeldB b xs →
    (∀ v h' tk, EndB d v (r.foldl bst b) → (∀ b o, b ≠ I → b ≠ S → s.heap.get? b = some o → h'.get? b = some o) → R (.ok (.ret v)) { s with heap := h', toks := tk }) →
    codeAny (model prog w) A (.builtin "max.loop" ⟨[.ref I, .none, .ref S], [("default", d)]⟩) R s := by
  intro r
  have W := Walks.list (prog := prog) (w := w) (A := A.in1) hh I l hne its
  have nm : (toString "max" ++ toString ".loop" : String) = "max.loop" := by decide
  have off : ∀ {b : Addr}, b ≠ I → b ∉ [I] := fun h m => h (by simpa using m)
  induction r with
  | nil =>
    intro j s b xs c hr hj st hS hb fin
    have ej : j = its.size := by
      cases e : its.toList.drop j with
      | nil =>
        have := List.drop_eq_nil_iff.mp e
        rw [Array.length_toList] at this
        omega
      | cons v vs => rw [e] at hr; cases hr
    subst ej
    refine codeAny_builtin F.entry_max_loop ?_
    rw [Around.under_plainId F.plain_max_loop _]
    show wpAny _ A.in1 (seqItems? (.ref S) >>= _) _ _ s
    refine wpAny_bind (wpAny_seqItems hS rfl ?_)
    show wpAny _ A.in1 (tryCatch (pyNext (.ref I)) _ >>= _) _ _ s
    refine wpAny_bind (wpAny_tryCatch (W.done s _ _ st fun h' tk k => ?_))
    have hS' := k S _ (off hI.symm) hS
    cases b with
    | none =>
      obtain rfl : xs = #[] := hb
      exact wpAny_bind (wpAny_rule (wpAny_pure (fin d h' tk rfl fun b o n1 _ e => k b o (off n1) e)))
    | some m =>
      obtain ⟨t, rfl⟩ : ∃ t, xs = #[.int m t, .int m t] := hb
      show wpAny _ A.in1 (updateSeq S (fun _ => #[]) >>= _) _ _ _
      refine wpAny_bind (wpAny_updateSeq hS' rfl (wpAny_bind (wpAny_letGo (wpAny_pure ?_))))
      exact fin _ _ tk ⟨t, rfl⟩ fun b o n1 n2 e => (Heap.get?_update_other _ _ n2.symm).trans (k b o (off n1) e)
  | cons x r ih =>
    intro j s b xs c hr hj st hS hb fin
    obtain ⟨v0, vs, e0, t0, rfl, hr'⟩ : ∃ v0 vs, its.toList.drop j = v0 :: vs ∧ ∃ t0, v0 = .int x t0 ∧ IntsAre vs r := by
      cases e : its.toList.drop j with
      | nil => rw [e] at hr; cases hr
      | cons v vs =>
        rw [e] at hr
        cases hr
        exact ⟨_, _, rfl, _, rfl, by assumption⟩
    have lt : j < its.size := by
      have := congrArg List.length e0
      rw [List.length_drop, Array.length_toList, List.length_cons] at this
      omega
    have at_ : its[j]? = some (.int x t0) := by
      have := congrArg List.head? e0
      rw [List.head?_drop, List.head?_cons, Array.getElem?_toList] at this
      exact this
    have dr : its.toList.drop (j + 1) = vs := by rw [← List.drop_drop, e0]; rfl
    refine codeAny_builtin F.entry_max_loop ?_
    rw [Around.under_plainId F.plain_max_loop _]
    show wpAny _ A.in1 (seqItems? (.ref S) >>= _) _ _ s
    refine wpAny_bind (wpAny_seqItems hS rfl ?_)
    show wpAny _ A.in1 (tryCatch (pyNext (.ref I)) _ >>= _) _ _ s
    refine wpAny_bind (wpAny_tryCatch (W.item j s _ _ lt st fun v h' tk hP st' k => ?_))
    rw [at_] at hP
    cases hP
    have hS' := k S _ (off hI.symm) hS
    have again_ : ∀ (b2 : Option Int) (ys : Array Value) (c2 : Nat) (h2 : Heap) (tk2 : Nat), bst b x = b2 → HeldB b2 ys → h2.get? S = some { cls := .type "list", dict := none, data := .seq ys c2, slots := #[] } → (∀ b o, b ≠ S → h'.get? b = some o → h2.get? b = some o) →
        codeAny (model prog w) A (.builtin "max.loop" ⟨[.ref I, .none, .ref S], [("default", d)]⟩) R { s with heap := h2, toks := tk2 } := by
      intro b2 ys c2 h2 tk2 eb hb2 hS2 k2
      refine ih (j + 1) { s with heap := h2, toks := tk2 } b2 ys c2 (by rw [dr]; exact hr') lt (W.frame _ _ _ st' fun b hbf o e => k2 b o ?_ e) hS2 hb2 fun v' h3 tk3 hv k3 => fin v' h3 tk3 ?_ fun b o n1 n2 e => k3 b o n1 n2 (k2 b o n2 (k b o (off n1) e))
      · simp only [List.mem_cons, List.not_mem_nil, or_false] at hbf
        rcases hbf with rfl | rfl
        · exact hI
        · exact hl
      · rw [List.foldl_cons, eb]
        exact hv
    cases b with
    | none =>
      obtain rfl : xs = #[] := hb
      show wpAny _ A.in1 (updateSeq S (fun _ => #[.int x t0, .int x t0]) >>= _) _ _ _
      refine wpAny_bind (wpAny_updateSeq hS' rfl ?_)
      rw [nm]
      exact wpAny_pure ⟨plainId_quiet F.plain_max_loop _, again_ _ _ _ _ _ rfl ⟨t0, rfl⟩ (Heap.get?_update_self _ hS' rfl) fun b o n e => (Heap.get?_update_other _ _ n.symm).trans e⟩
    | some m =>
      obtain ⟨t, rfl⟩ : ∃ t, xs = #[.int m t, .int m t] := hb
      show wpAny _ A.in1 (tryCatch (holding [.int x t0, .int x t0] (richCompare .Gt (.int x t0) (.int m t) >>= _)) _ >>= _) _ _ _
      refine wpAny_bind (wpAny_tryCatch (wpAny_holding (wpAny_bind (cmp_gt ?_))))
      refine wpAny_bind (wpAny_holding (wpAny_truthy_bool (wpAny_bind (wpAny_letGo (wpAny_pure ?_)))))
      by_cases g : m < x
      · rw [show decide (x > m) = true from decide_eq_true g]
        simp only [if_true]
        refine wpAny_bind (wpAny_updateSeq hS' rfl (wpAny_bind (wpAny_letGo ?_)))
        rw [nm]
        exact wpAny_pure ⟨plainId_quiet F.plain_max_loop _, again_ (some x) _ _ _ _ (by simp only [bst, if_pos g]) ⟨t0, rfl⟩ (Heap.get?_update_self _ hS' rfl) fun b o n e => (Heap.get?_update_other _ _ n.symm).trans e⟩
      · rw [show decide (x > m) = false from decide_eq_false g]
        simp only [Bool.false_eq_true, if_false]
        refine wpAny_bind (wpAny_letGo ?_)
        rw [nm]
        exact wpAny_pure ⟨plainId_quiet F.plain_max_loop _, again_ (some m) _ _ _ _ (by simp only [bst, if_neg g]) ⟨t, rfl⟩ hS' fun b o n e => e⟩
end
theorem args_maxd (a v : Value) : argsOk "max" ⟨[a], [(Str.ofString "default", v)]⟩ := by unfold argsOk; kernel_rfl
section
variable {X : Cx}
def rMaxDf (K : PySem.W.Frag) : List V → List V → Hp → VK → Prop := fun vs zs H Q => ∃ (a : Addr) (ns : List Int) (d : Int), vs = [V.ref a] ∧ zs = [V.int d] ∧ SqL K H a (ns.map V.int) ∧ Q (.int ((ns.foldl bst none).getD d)) H
theorem cr_maxDf (hc : X.calm = true) : CallRK X (.builtin "max") [Str.ofString "default"] (rMaxDf X.K) := by
  intro pins s σ H vs zs us ws Q I r rz h
  obtain ⟨a, ns, d, rfl, rfl, hs, q⟩ := h
  obtain ⟨its, rv, hl, _⟩ := I.list hs
  obtain rfl := Vals.ref1 r
  obtain ⟨w1, rfl, t, rfl⟩ := vals1 rz
  have hL := hl.isList
  have hlt : a < s.heap.objs.size := by obtain ⟨_, e, _⟩ := hL; exact Heap.lt_size e
  refine wpAny_call (codeAny_call_builtin F.plain_max F.entry_max ?_)
  have go : wpAny (model X.prog X.w) X.A.in1 (Builtin.«max» ⟨[.ref a], [(Str.ofString "default", .int d t)]⟩) (fun fin s' => match fin with
      | .done f => (match (Except.ok f : Result) with | .ok (.ret v) => EP X pins σ Q v s' | .ok _ => False | .error e => X.xe e s')
      | .again c' => c'.quiet = true ∧ codeAny (model X.prog X.w) X.A c' (fun r s' => match r with | .ok (.ret v) => EP X pins σ Q v s' | .ok _ => False | .error e => X.xe e s') s') X.xe s := by
    show wpAny _ X.A.in1 (Builtin.Builtins.bindParams "max" ["key", "default"] 0 ⟨[], [(Str.ofString "default", .int d t)]⟩ >>= _) _ _ s
    refine wpAny_bind (wpAny_of_eq (show Builtin.Builtins.bindParams "max" ["key", "default"] 0 ⟨[], [(Str.ofString "default", .int d t)]⟩ = pure [none, some (.int d t)] from rfl) ?_)
    refine wpAny_bind (wpAny_pure ?_)
    refine wpAny_bind (wpAny_pyIter_list hL ?_)
    refine wpAny_bind (wpAny_newObj_type ?_)
    have nm : (toString "max" ++ toString ".loop" : String) = "max.loop" := by decide
    rw [nm]
    have ps : ∀ (o : Obj), (s.heap.push o).objs.size = s.heap.objs.size + 1 := fun o => size_push' _ _
    refine wpAny_pure ⟨plainId_quiet F.plain_max_loop _, maxd_loop (l := a) (its := its.toArray) (b := none) (xs := #[]) (d := .int d t) (I.ok.hd hc) ?_ ?_ ?_ ns 0 _ _ ?_ (Nat.zero_le _) ?_ (Heap.get?_push_size _ rfl) rfl fun v h' tk hv k => ?_⟩
    · rw [ps]
      exact Nat.ne_of_lt (Nat.lt_succ_self _)
    · rw [ps]
      exact Nat.ne_of_lt (Nat.lt_succ_of_lt hlt)
    · exact Nat.ne_of_lt hlt
    · simpa using rv.ints
    · exact ⟨⟨_, Heap.get?_push_of_some _ (Heap.get?_push_size _ rfl), rfl, rfl⟩, (hL.push _).push _⟩
    · refine ⟨.int ((ns.foldl bst none).getD d), H, I.kept (t' := tk) fun b o e => ?_, ?_, q⟩
      · have lt := Heap.lt_size e
        exact k b o (Nat.ne_of_lt lt) (by rw [ps]; exact Nat.ne_of_lt (Nat.lt_succ_of_lt lt)) (Heap.get?_push_of_some _ (Heap.get?_push_of_some _ e))
      · cases e : ns.foldl bst none with
        | none =>
          rw [e] at hv
          exact ⟨t, hv⟩
        | some m =>
          rw [e] at hv
          exact hv
  simp only [checkBuiltinCall, F.kind_max]
  have ha := args_maxd (.ref a) (.int d t)
  cases hsig : Manifest.signature? "max" with
  | none => exact wpAny_pure go
  | some sig =>
    simp only [argsOk, hsig] at ha
    show wpAny _ X.A.in1 (Bind.checkArgs "max" sig ⟨[.ref a], [(Str.ofString "default", .int d t)]⟩) _ _ s
    rw [ha]
    exact wpAny_pure go
theorem aMaxDf {K : PySem.W.Frag} (e : X.K = K) (hc : X.calm = true) : CallRK X (.builtin "max") [Str.ofString "default"] (rMaxDf K) := e ▸ cr_maxDf hc
end
end Vf
namespace Vf
open PySem L2 PyProof.Rows PySem.Spec
/-! ## signs in words -/
theorem tl_ext {a b : Str} (h : a.cps.toList = b.cps.toList) : a = b := by
  obtain ⟨a⟩ := a
  obtain ⟨b⟩ := b
  have : a = b := Array.toList_inj.mp h
  rw [this]
theorem tl_app2 (a b : Str) : (a ++ b).cps.toList = a.cps.toList ++ b.cps.toList := by
  show (a.cps ++ b.cps).toList = _
  rw [Array.toList_append]
def blank : Str := " "
theorem join_eqS (y : Str) (l : List Str) : Txt.join y l = Str.join y l := TL.join_eq y l
theorem join_cons (y x : Str) {l : List Str} (h : l ≠ []) : Str.join y (x :: l) = x ++ y ++ Str.join y l := by
  cases l with
  | nil => exact absurd rfl h
  | cons z r => rfl
theorem str_assoc (a b c : Str) : a ++ b ++ c = a ++ (b ++ c) := tl_ext (by rw [tl_app2, tl_app2, tl_app2, tl_app2, List.append_assoc])
theorem join_append (y : Str) : ∀ {l m : List Str}, l ≠ [] → m ≠ [] → Str.join y (l ++ m) = Str.join y l ++ y ++ Str.join y m
  | [], _, h, _ => absurd rfl h
  | [x], m, _, h => join_cons y x h
  | x :: z :: r, m, _, h => by
    rw [List.cons_append, join_cons y x (by simp), join_append y (l := z :: r) (by simp) h, join_cons y x (by simp)]
    simp only [str_assoc]
theorem join_flat {α : Type} (y : Str) (f : α → List Str) (hf : ∀ x, f x ≠ []) : ∀ l : List α, Str.join y (l.map fun x => Str.join y (f x)) = Str.join y (l.flatMap f)
  | [] => rfl
  | [x] => by
    rw [List.flatMap_cons, List.flatMap_nil, List.append_nil]
    rfl
  | x :: z :: r => by
    rw [List.map_cons, join_cons y _ (by simp), join_flat y f hf (z :: r), List.flatMap_cons (x := x), join_append y (hf x) (by
      rw [List.flatMap_cons]
      exact fun e => hf z (List.append_eq_nil_iff.mp e).1)]
/-- a text of a word: signs that are no blanks -/
def Word (z : Str) : Prop := 32 ∉ z.cps.toList
theorem split_words {l : List Str} (h : l ≠ []) (hw : ∀ z ∈ l, Word z) : Txt.split (Str.join " " l) " " = l := by
  rw [← join_eqS]
  exact TL.split_join (y := " ") (s := 32) (S := []) (by decide +kernel) (by decide +kernel) h hw
end Vf
namespace Vf
open PySem L2 PyProof.Rows PySem.Spec RT
section
variable {X : Cx} {tg : Expr}
theorem aRevW {K : PySem.W.Frag} (h : X.K = K) {e : Expr} {te : TE} {p pos : Pos} (hg : Gl X "reversed") (hm : X.mg "reversed" = none) (he : PE X e te) (hs : starEach [e] X.env = (false, eval e X.env) :: starEach [] X.env := by rfl) : PI X tg (.Call (.Name "reversed" p) [e] [] pos) (iRevA K te) := h ▸ pi_revA hg hm he hs
end
theorem aBm0 {X : Cx} {K : PySem.W.Frag} {T name id : String} {r : V → List V → Hp → VK → Prop} {o : Expr} {to : TE} {apos cpos : Pos} (e : X.K = K) (pa : PlainAttrs T) (slot : Slot T name id) (hty : typeOf (.builtin id) = pure (.type "method_descriptor")) (hm : MtR X id r) (ho : PE X o to)
    (hbase : attributeBase o name X.env (eval o X.env) = eval o X.env := by rfl) (hline : (apos.endLine == cpos.line) = true := by rfl) : PE X (.Call (.Attribute o name apos) [] [] cpos) (tBM0 K T r to) := e ▸ pe_bm0 pa slot hty hm ho hbase hline
theorem steps_rev (K : PySem.W.Frag) (a : Addr) (xs : List V) : Steps (Itv K a xs.length) xs.reverse (fun H => SqL K H a xs) where
  stop := fun H g => by
    show xs.length ≤ xs.reverse.length
    rw [List.length_reverse]
    exact Nat.le_refl _
  go := fun i H h g => by
    rw [List.length_reverse] at h
    refine ⟨h, xs, xs[xs.length - 1 - i]'(by omega), g, List.getElem?_eq_getElem _⟩
  yld := fun i H x H' h g y => by
    rw [List.length_reverse] at h
    obtain ⟨e, f⟩ := y
    refine ⟨?_, e⟩
    rw [List.getElem?_reverse h]
    exact f xs g
end Vf
namespace Vf
open PySem L2 PyProof.Rows PySem.Spec
/-! ## t * n of a tuple, n small -/
theorem tuple_mul1 (l : Addr) (items : Array Value) (n : Nat) (dd : Option Addr) (sl : Array (Option Value)) (u : Tok) :
    Meets (Builtin.«tuple.__mul__» ⟨[.ref l, .int 1 u], []⟩) (fun _ R s => s.heap.get? l = some { cls := .type "tuple", dict := dd, data := .seq items n, slots := sl } ∧ R (.ok (.ret (Value.ref l))) s) :=
  .of_wp fun prog w A R s h => by
    obtain ⟨hp, g, d, tk, os⟩ := s
    obtain ⟨hl, h⟩ := h
    have f1 := AutoSeq1.idx_int
    have c1 : (items.isEmpty || (1 : Int) == 1) = true := by simp
    wp_walk using wpAny_loadPart' hl
    exact ⟨_, rfl, h⟩
theorem tuple_mul0 (l : Addr) (items : Array Value) (n : Nat) (dd : Option Addr) (sl : Array (Option Value)) (x : Int) (u : Tok) (hx : x ≤ 0) (hx2 : -(2 ^ 63) ≤ x) (ne : items.isEmpty = false) :
    Meets (Builtin.«tuple.__mul__» ⟨[.ref l, .int x u], []⟩) (fun _ R s => s.heap.get? l = some { cls := .type "tuple", dict := dd, data := .seq items n, slots := sl } ∧ R (.ok (.ret (Value.ref s.heap.objs.size))) { s with heap := s.heap.push { cls := Value.type "tuple", data := Data.seq #[] }, toks := s.toks }) :=
  .of_wp fun prog w A R s h => by
    obtain ⟨hp, g, d, tk, os⟩ := s
    obtain ⟨hl, h⟩ := h
    have f1 := AutoSeq1.idx_int
    have c0 : (decide (x < -(2 ^ 63)) || decide (x ≥ 2 ^ 63)) = false := by
      rw [decide_eq_false (by omega), decide_eq_false (by omega)]; rfl
    have c1 : (items.isEmpty || x == 1) = false := by
      rw [ne, Bool.false_or]
      exact beq_eq_false_iff_ne.mpr (by omega)
    have c2 : (decide (x ≤ 0) || items.isEmpty) = true := by
      rw [decide_eq_true hx]; rfl
    wp_walk using wpAny_loadPart' hl
    repeat (first
      | (refine wpAny_ite_false (decide_eq_false (by rw [c0]; exact Bool.false_ne_true)) ?_; wp_walk using wpAny_loadPart' hl)
      | (refine wpAny_ite_false (decide_eq_false (by rw [c1]; exact Bool.false_ne_true)) ?_; wp_walk using wpAny_loadPart' hl)
      | (refine wpAny_ite_true (decide_eq_true c2) ?_; wp_walk using wpAny_loadPart' hl))
    exact ⟨_, rfl, h⟩
def rRepS (K : PySem.W.Frag) : R2 := fun x y H Q => ∃ l k xs, x = .ref l ∧ y = .int k ∧ SqT K H l xs ∧ xs ≠ [] ∧ ((k = 1 ∧ Q (.ref l) H) ∨ (k ≤ 0 ∧ -(2 ^ 63) ≤ k ∧ ∀ p, H p = none → Q (.ref p) (upd H p (.tup []))))
theorem op_repS {X : Cx} : OpR X (binaryOp .Mult) (rRepS X.K) := by
  intro pins s σ H x y v u Q I rx ry h
  obtain ⟨l, k, xs, rfl, rfl, hT, hne, h⟩ := h
  cases rx
  obtain ⟨t, rfl⟩ := ry
  obtain ⟨its, r, ⟨⟨cls, dd, data, sl⟩, ho, hc, n, hd⟩, hs⟩ := I.tuple hT
  simp only at hc hd
  subst hc hd
  have hle : its.length = xs.length := r.length.symm
  have hi : its.toArray.isEmpty = false := by
    cases its with
    | nil => exact absurd (List.eq_nil_of_length_eq_zero hle.symm) hne
    | cons a b => rfl
  rcases h with ⟨rfl, q⟩ | ⟨k0, k1, q⟩
  · exact wpAny_binaryOp_repeat_ref (T := "tuple") (U := "int") (by decide) ⟨_, ho, rfl⟩ (fun s' => typeIs_int s' 1 t) noFill_tuple_mul F.fills_int_mul F.slot_int_rmul repeat_tuple F.slot_int_index.lookup
      (call_meets F.slot_int_rmul (typeIs_int s 1 t) F.entry_int_rmul (F.args_int_rmul_2 _ _) (int_rmul_tuple 1 t l its.toArray n dd sl)
        ⟨ho, rfl, ⟨_, ho, rfl⟩, call_meets F.slot_tuple_mul ⟨_, ho, rfl⟩ F.entry_tuple_mul (F.args_tuple_mul_2 _ _) (tuple_mul1 l its.toArray n dd sl t) ⟨ho, ⟨.ref l, H, I, rfl, q⟩⟩⟩)
  · refine wpAny_binaryOp_repeat_ref (T := "tuple") (U := "int") (by decide) ⟨_, ho, rfl⟩ (fun s' => typeIs_int s' k t) noFill_tuple_mul F.fills_int_mul F.slot_int_rmul repeat_tuple F.slot_int_index.lookup
      (call_meets F.slot_int_rmul (typeIs_int s k t) F.entry_int_rmul (F.args_int_rmul_2 _ _) (int_rmul_tuple k t l its.toArray n dd sl)
        ⟨ho, rfl, ⟨_, ho, rfl⟩, call_meets F.slot_tuple_mul ⟨_, ho, rfl⟩ F.entry_tuple_mul (F.args_tuple_mul_2 _ _) (tuple_mul0 l its.toArray n dd sl k t k0 k1 hi) ⟨ho, ?_⟩⟩)
    refine ⟨.ref s.heap.objs.size, _, I.laid (t' := s.toks) (o := .tup []) (fun b ob q => Heap.get?_push_of_some _ q) (Nat.le_refl _) ?_, rfl, q _ (I.hok.fresh (Nat.le_refl _))⟩
    exact ⟨Nat.zero_le _, [], .nil, IsTup.new _ _⟩
end Vf
namespace Vf
open PySem L2 PyProof.Rows PySem.Spec
/-! ## sorted(set(tuples of whole numbers of any kind, of any lengths)) -/
/-- rows of whole numbers, the one ahead of the other -/
def lexI : List Int → List Int → Bool
  | [], b => !b.isEmpty
  | _ :: _, [] => false
  | x :: a, y :: b => if x = y then lexI a b else decide (x < y)
theorem lexI_asym : ∀ a b : List Int, lexI a b = true → lexI b a = false
  | [], [], h => nomatch h
  | [], _ :: _, _ => rfl
  | _ :: _, [], h => nomatch h
  | x :: a, y :: b, h => by
    unfold lexI at h ⊢
    by_cases e : x = y
    · rw [if_pos e] at h
      rw [if_pos e.symm]
      exact lexI_asym a b h
    · rw [if_neg e, decide_eq_true_eq] at h
      rw [if_neg fun z => e z.symm]
      exact decide_eq_false (by omega)
theorem lexI_tri : ∀ {a b : List Int}, lexI a b = false → a ≠ b → lexI b a = true
  | [], [], _, n => absurd rfl n
  | [], _ :: _, h, _ => nomatch h
  | _ :: _, [], _, _ => rfl
  | x :: a, y :: b, h, n => by
    unfold lexI at h ⊢
    by_cases e : x = y
    · rw [if_pos e] at h
      rw [if_pos e.symm]
      exact lexI_tri h fun z => n (by rw [e, z])
    · rw [if_neg e, decide_eq_false_iff_not] at h
      rw [if_neg fun z => e z.symm]
      exact decide_eq_true (by omega)
theorem lexI_self : ∀ a : List Int, lexI a a = false
  | [] => rfl
  | x :: a => by unfold lexI; rw [if_pos rfl]; exact lexI_self a
theorem lexI_trans : ∀ a b c : List Int, lexI a b = true → lexI b c = true → lexI a c = true
  | [], _, [], h, k => by
    rename_i b
    cases b with
    | nil => exact k
    | cons x b => exact nomatch k
  | [], _, _ :: _, _, _ => rfl
  | _ :: _, [], _, h, _ => nomatch h
  | _ :: _, _ :: _, [], _, k => nomatch k
  | x :: a, y :: b, z :: c, h, k => by
    unfold lexI at h k ⊢
    by_cases e : x = y
    · subst e
      rw [if_pos rfl] at h
      by_cases e2 : x = z
      · subst e2
        rw [if_pos rfl] at k ⊢
        exact lexI_trans a b c h k
      · rw [if_neg e2] at k ⊢
        exact k
    · rw [if_neg e, decide_eq_true_eq] at h
      by_cases e2 : y = z
      · subst e2
        rw [if_neg e]
        exact decide_eq_true h
      · rw [if_neg e2, decide_eq_true_eq] at k
        rw [if_neg (by omega)]
        exact decide_eq_true (by omega)
theorem swo_lexI (k : Value → List Int) : SrtO.Swo fun v u => lexI (k v) (k u) := by
  refine ⟨fun x y h => lexI_asym _ _ h, fun x y z h1 h2 => ?_⟩
  show lexI (k z) (k x) = false
  have h1 : lexI (k y) (k x) = false := h1
  have h2 : lexI (k z) (k y) = false := h2
  by_cases e1 : k y = k x
  · rw [← e1]
    exact h2
  · by_cases e2 : k z = k y
    · rw [e2]
      exact h1
    · exact lexI_asym _ _ (lexI_trans _ _ _ (lexI_tri h1 e1) (lexI_tri h2 e2))
section
variable {prog : Program} {w : World} {A : Around} {E : Value → Shared → Prop} {s : Shared}
theorem lexI_walk {b : Bool} {Q : Bool → Shared → Prop} : ∀ {ns ms : List Int} {xs ys : List Value} (i : Nat), IntsAre xs ns → IntsAre ys ms → Q (lexI ns ms) s → PySem.W.KatLex prog w A b (decide (xs.length < ys.length)) Q (xs.zip ys) i s
  | _, _, _, _, i, .nil, .nil, h => PySem.W.kat_nil h
  | _, _, _, _, i, .nil, .cons m v t, h => PySem.W.kat_nil (by
      rw [decide_eq_true (by simp)]
      exact h)
  | _, _, _, _, i, .cons n u t, .nil, h => PySem.W.kat_nil (by
      rw [decide_eq_false (by simp)]
      exact h)
  | _, _, _, _, i, .cons n u (vs := xs) (ns := ns) t, .cons m v (vs := ys) (ns := ms) t2, h => by
    rw [show decide ((Value.int n u :: xs).length < (Value.int m v :: ys).length) = decide (xs.length < ys.length) from decide_eq_decide.mpr (by simp)]
    refine PySem.W.kat_cons (wpAny_eqBool_int ?_)
    unfold lexI at h
    by_cases e : n = m
    · rw [if_pos e] at h
      rw [e, beq_self_eq_true]
      exact PySem.W.kat_yes (lexI_walk (i + 1) t t2 h)
    · rw [if_neg e] at h
      rw [show (n == m) = false from beq_eq_false_iff_ne.mpr e]
      exact PySem.W.kat_no (TS.oneLt_ints _ h)
/-- each is a tuple of whole numbers, none empty, k says which -/
def AreTups (h : Heap) (k : Value → List Int) (vs : List Value) : Prop := ∀ v ∈ vs, TS.TupInts h v (k v) ∧ k v ≠ []
theorem AreTups.firsts {h : Heap} {k : Value → List Int} : ∀ {vs : List Value}, AreTups h k vs → ∃ fs, PySem.W.KatTups h vs fs ∧ fs.length = vs.length ∧ ∀ f ∈ fs, ∃ n t, f = Value.int n t
  | [], _ => ⟨[], .nil, rfl, fun f hf => nomatch hf⟩
  | v :: vs, x => by
    obtain ⟨⟨a, xs, e, ⟨o, ho, hc, n, hd⟩, is⟩, ne⟩ := x v List.mem_cons_self
    obtain ⟨fs, kt, kl, ki⟩ := AreTups.firsts fun u hu => x u (List.mem_cons_of_mem _ hu)
    generalize hk : k v = ns at is ne
    generalize hx : xs.toList = l at is
    match ns, l, is with
    | [], _, _ => exact absurd rfl ne
    | _ :: _, _, .cons m t is =>
      subst e
      refine ⟨.int m t :: fs, .cons ho hc hd ?_ kt, congrArg Nat.succ kl, fun f hf => ?_⟩
      · rw [← Array.getElem?_toList, hx]
        rfl
      · rcases List.mem_cons.mp hf with rfl | hf
        · exact ⟨m, t, rfl⟩
        · exact ki f hf
theorem AreTups.sortable {a : Addr} {vs : List Value} {k : Value → List Int} (x : AreTups s.heap k vs) (h0 : 0 < vs.length) (ha : ∀ o, s.heap.get? a = some o → o.cls ≠ .type "tuple") : SrtO.SortableO prog w A s a vs fun v u => lexI (k v) (k u) := by
  intro h' keep
  have x' : AreTups h' k vs := fun v hv => ⟨(x v hv).1.keeps fun b o e c => keep b o (fun z => ha o (z ▸ e) c) e, (x v hv).2⟩
  obtain ⟨fs, kt, kl, ki⟩ := x'.firsts
  refine ⟨tuples' (Value.type "int" != Value.type "tuple"), fun Q E hq => PySem.W.kat_kind (T := .type "int") kt (by omega) (fun f hf => ?_) (by rfl) hq, fun p q hp hq => ?_⟩
  · obtain ⟨m, t, rfl⟩ := ki f hf
    exact PySem.W.Looks.of_pure rfl
  · obtain ⟨a1, xs, e1, ⟨o1, ho1, _, n1, hd1⟩, i1⟩ := (x' _ hp).1
    obtain ⟨a2, ys, e2, ⟨o2, ho2, _, n2, hd2⟩, i2⟩ := (x' _ hq).1
    show wpAny _ _ (keyLt' _ p.1 q.1) (fun r s' => s' = _ ∧ r = lexI (k p.1) (k q.1)) _ _
    generalize k p.1 = ns at i1
    generalize k q.1 = ms at i2
    rw [e1, e2]
    refine PySem.W.kat_lt ho1 hd1 ho2 hd2 ?_
    rw [show decide (xs.size < ys.size) = decide (xs.toList.length < ys.toList.length) from rfl]
    exact lexI_walk 0 i1 i2 ⟨rfl, rfl⟩
end
section
variable {P : Program} {w : World} {A : Around} {E : Value → Shared → Prop} {s : Shared}
/-- sorted of a set of tuples -/
theorem sorted_set_tups {a : Addr} {L : List (Addr × List Int)} {es : Array (Int × Value)} {ep : Nat} {t : SetTable} {Q : Value → Shared → Prop} (R : SetTR P w s.heap a L es ep t) (hh : A.handled = none) (ne : ∀ p ∈ L, p.2 ≠ [])
    (hQ : ∀ s' p (out : List Value) (c : Nat), (∀ b o, s.heap.get? b = some o → s'.heap.get? b = some o) → s'.gens = s.gens → s'.os = s.os → s.heap.objs.size ≤ p → s'.heap.get? p = some (seqObj "list" out.toArray c) →
      out.Perm (L.map fun q => Value.ref q.1) → SrtO.Srtd (fun v u => lexI (TS.intsOf s.heap v) (TS.intsOf s.heap u)) out → Q (.ref p) s') :
    wpAny (model P w) A (call (.builtin "sorted") [.ref a]) Q E s := by
  obtain ⟨o, ho, hex, hd⟩ := R.ob
  have hsz := R.size
  have hfew := R.few
  have old : AreTups s.heap (TS.intsOf s.heap) (L.map fun q => Value.ref q.1) := fun v hv => by
    obtain ⟨q, hq, rfl⟩ := List.mem_map.mp hv
    have ti := tupInts_of (R.tup q hq)
    rw [ti.ints]
    exact ⟨ti, ne q hq⟩
  refine Calls.call_function_entry kind_sorted plain_sorted entry_sorted (args_sorted1 _) ?_
  unfold Builtin.«sorted»
  refine wpAny_bind (m := checkCount "sorted" 1 1 _) (wpAny_pure ?_)
  refine wpAny_bind (collect_set (A := A.in1) hh ⟨o, ho, hex.1, hd⟩ R.fits (by unfold scanBound; omega) R.tab.ris R.led fun s1 vs k1 hz g1 o1 pm => ?_)
  rw [show es.toList.map (·.2) = L.map fun q => Value.ref q.1 by rw [R.rows]; unfold rowsOf; rw [List.map_map]; rfl] at pm
  have hvl : vs.length ≤ sizeLine := by rw [pm.length_eq, List.length_map, sizeLine_eq]; omega
  refine wpAny_bind (wpAny_newList ?_ (by simpa using hvl))
  have at1 : (s1.heap.push (seqObj "list" vs.toArray 0)).get? s1.heap.objs.size = some (seqObj "list" vs.toArray 0) := Heap.get?_push_size _ rfl
  have stay : ∀ b u, s.heap.get? b = some u → (s1.heap.push (seqObj "list" vs.toArray 0)).get? b = some u := fun b u e => Heap.get?_push_of_some _ (k1 b u e)
  have now : AreTups (s1.heap.push (seqObj "list" vs.toArray 0)) (TS.intsOf s.heap) vs := fun v hv =>
    let x := old v (pm.mem_iff.mp hv); ⟨x.1.keeps fun b u e _ => stay b u e, x.2⟩
  refine wpAny_bind (wpAny_holding (wpAny_call_entry (s := { s1 with heap := s1.heap.push (seqObj "list" vs.toArray 0) }) slot_list_sort ⟨_, at1, rfl⟩ entry_list_sort
    (SrtO.list_sort_ord (swo_lexI (TS.intsOf s.heap)) at1 hvl (fun h2 => now.sortable (by omega) fun o e => by rw [at1] at e; cases e; exact fun z => by injection z with z; exact absurd z (by decide)) fun out hs hb => ⟨_, rfl, ?_⟩) (args_list_sort _)))
  obtain ⟨c, hc⟩ := sortedHeap_at (vs := vs) (out := out.toArray) at1
  refine wpAny_pure ⟨_, rfl, hQ _ s1.heap.objs.size out c (fun b u e => ?_) g1 o1 hz hc (hb.perm.trans pm) hs⟩
  have lt := Heap.lt_size (k1 b u e)
  show (sortedHeap (s1.heap.push (seqObj "list" vs.toArray 0)) s1.heap.objs.size vs out.toArray).get? b = some u
  rw [sortedHeap_old (Nat.ne_of_lt lt) (by rw [size_push']; exact Nat.lt_succ_of_lt lt)]
  exact stay b u e
end
theorem refs_back : ∀ {vs : List Value} {L : List (Addr × List Int)}, (∀ v ∈ vs, v ∈ L.map fun q => Value.ref q.1) → ∃ M : List (Addr × List Int), vs = M.map (fun q => Value.ref q.1) ∧ ∀ q ∈ M, q ∈ L
  | [], _, _ => ⟨[], rfl, fun q hq => nomatch hq⟩
  | v :: vs, L, h => by
    obtain ⟨q, hq, e⟩ := List.mem_map.mp (h v List.mem_cons_self)
    obtain ⟨M, e2, hM⟩ := refs_back fun u hu => h u (List.mem_cons_of_mem _ hu)
    refine ⟨q :: M, by rw [List.map_cons, e, e2], fun r hr => ?_⟩
    rcases List.mem_cons.mp hr with rfl | hr
    · exact hq
    · exact hM r hr
/-- sorted(a set of tuples): rising, each once -/
def rSortedTG (K : PySem.W.Frag) (P : Program) (w : World) : List V → Hp → VK → Prop := fun vs H Q => ∃ (a : Addr) (L : List (Addr × List Int)), vs = [V.ref a] ∧ H a = some (SetTO P w a L) ∧ (∀ p ∈ L, SqT K H p.1 (p.2.map V.int) ∧ p.2 ≠ []) ∧
  ∀ (M : List (Addr × List Int)) (p : Addr), (∀ q ∈ M, q ∈ L) → (∀ q ∈ L, q.2 ∈ M.map (·.2)) → (M.map (·.2)).Pairwise (fun k l => lexI k l = true) → M.length < 64 → H p = none → Q (.ref p) (upd H p (.lst (M.map fun q => V.ref q.1)))
theorem cr_sortedTG {X : Cx} (hc : X.calm = true) : CallR X (.builtin "sorted") (rSortedTG X.K X.prog X.w) := by
  intro pins s σ H vs us Q I r h
  obtain ⟨a, L, rfl, ha, hk, q⟩ := h
  have R0 : SetT0 X.prog X.w s.heap a L := (I.hok a _ ha).1
  obtain ⟨es, ep, t, R⟩ := R0.full fun p hp => I.isT (hk p hp).1
  rw [Vals.ref1 r]
  refine sorted_set_tups R (I.ok.hd hc) (fun p hp => (hk p hp).2) fun s' p out c keep g o hp hg pm srt => ?_
  obtain ⟨M, eM, sub⟩ := refs_back fun v hv => pm.mem_iff.mp hv
  have key : ∀ q ∈ L, TS.intsOf s.heap (.ref q.1) = q.2 := fun q hq => (tupInts_of (R.tup q hq)).ints
  have one : ∀ q ∈ L, ∀ r ∈ L, q.1 = r.1 → q.2 = r.2 := fun q hq r hr e => by rw [← key q hq, ← key r hr, e]
  have len : M.length = L.length := by
    have := pm.length_eq
    rwa [eM, List.length_map, List.length_map] at this
  have all : ∀ q ∈ L, q.2 ∈ M.map (·.2) := fun q hq => by
    have : Value.ref q.1 ∈ out := pm.mem_iff.mpr (List.mem_map.mpr ⟨q, hq, rfl⟩)
    rw [eM] at this
    obtain ⟨r, hr, e⟩ := List.mem_map.mp this
    injection e with e
    exact List.mem_map.mpr ⟨r, hr, one r (sub r hr) q hq e⟩
  have nd : (M.map (·.2)).Nodup := by
    have ndk : (L.map fun q => TS.intsOf s.heap (.ref q.1)).Nodup := by
      rw [List.map_congr_left (g := (·.2)) fun q hq => key q hq]
      exact R.nd
    have p2 : (out.map (TS.intsOf s.heap)).Nodup := by
      refine (pm.map (TS.intsOf s.heap)).nodup_iff.mpr ?_
      rw [List.map_map]
      exact ndk
    rw [eM, List.map_map] at p2
    rw [← List.map_congr_left (f := fun q : Addr × List Int => TS.intsOf s.heap (.ref q.1)) fun q hq => key q (sub q hq)]
    exact p2
  have rise : (M.map (·.2)).Pairwise (fun k l => lexI k l = true) := by
    have s2 : (M.map (·.2)).Pairwise (fun k l => lexI l k = false) := by
      rw [eM] at srt
      have srt := List.pairwise_map.mp srt
      refine List.pairwise_map.mpr (List.Pairwise.imp_of_mem (fun {q r} hq hr h => ?_) srt)
      rw [← key q (sub q hq), ← key r (sub r hr)]
      exact h
    refine List.Pairwise.imp (fun {k l} h => ?_) (List.Pairwise.and s2 nd)
    exact lexI_tri h.1 fun e => h.2 e.symm
  have few := R.few
  have hn : H p = none := I.hok.fresh hp
  have hv : Vals (M.map fun q => V.ref q.1) out := by rw [eM]; exact vals_of_refs M
  have J : Inv X pins σ (upd H p (.lst (M.map fun q => V.ref q.1))) { s with heap := s'.heap, gens := s'.gens, drawn := s'.drawn, toks := s'.toks } :=
    I.call (ch := []) (Un.laid keep hp hn) (I.hok.laid keep hp ⟨by rw [List.length_map, sizeLine_eq]; omega, out, c, hv, hg⟩) (by rw [g]; exact I.bare) fun _ z => nomatch z
  have e : s' = { s with heap := s'.heap, gens := s'.gens, drawn := s'.drawn, toks := s'.toks } := by
    cases s'
    cases o
    rfl
  rw [e]
  exact ⟨.ref p, _, J, rfl, q M p sub all rise (by omega) hn⟩
end Vf
namespace Vf
open PySem L2 PyProof.Rows PySem.Spec
/-! ## enumerate(tuple) -/
theorem meets_enumT (t : Addr) (items : Array Value) (n : Nat) (dd : Option Addr) (sl : Array (Option Value)) :
    Meets (Builtin.«enumerate.__new__» ⟨[.type "enumerate", .ref t], []⟩) (fun _ R s => s.heap.get? t = some { cls := .type "tuple", dict := dd, data := .seq items n, slots := sl } ∧
      R (.ok (.ret (.ref (s.heap.push { cls := .type "tuple_iterator", data := .fields #[.ref t, .int 0 0] }).objs.size)))
        { s with heap := (s.heap.push { cls := .type "tuple_iterator", data := .fields #[.ref t, .int 0 0] }).push { cls := .type "enumerate", data := .fields #[.none, .bool false, .ref s.heap.objs.size, rawInt 0, .none, .none] } }) :=
  .of_wp fun prog w A R s h => by
    obtain ⟨hp, g, d, tk, os⟩ := s
    obtain ⟨ht, h⟩ := h
    have sub := sub_enumerate
    have isT : Heap.IsTuple (Shared.heap ⟨hp, g, d, tk, os⟩) t items := ⟨_, ht, rfl, n, rfl⟩
    wp_walk using AutoSeq1.wpAny_loadPart' ht
    refine wpAny_stack_any fun st => wpAny_pure ?_
    split
    · rename_i c _ _ _ _ _
      cases (c == Value.type "enumerate") <;>
      · wp_walk using AutoSeq1.wpAny_loadPart' ht, wpAny_pyIter_tuple isT
        exact ⟨_, rfl, h⟩
    · wp_walk using AutoSeq1.wpAny_loadPart' ht, wpAny_pyIter_tuple isT
      exact ⟨_, rfl, h⟩
section
variable {prog : Program} {w : World} {A : Around} {E : Value → Shared → Prop} {s : Shared}
theorem call_enumT {t : Addr} {items : Array Value} {Q : Value → Shared → Prop} (ht : s.heap.IsTuple t items)
    (h : ∀ h', IsEnum h' (s.heap.objs.size + 1) s.heap.objs.size 0 .none → h'.IsTupleIter s.heap.objs.size t 0 → h'.objs.size = s.heap.objs.size + 2 → (∀ b o, s.heap.get? b = some o → h'.get? b = some o) → Q (.ref (s.heap.objs.size + 1)) { s with heap := h' }) :
    wpAny (model prog w) A (call (.type "enumerate") [.ref t]) Q E s := by
  obtain ⟨⟨c, dd, dt, sl⟩, ho, hc, n, hd⟩ := ht
  obtain rfl : c = .type "tuple" := hc
  obtain rfl : dt = .seq items n := hd
  refine callType_new F.called_enumerate (by decide) (F.typeCall_enumerate_1 _) (F.newCall_enumerate_1 _) (fun obj => F.args_object_init_2 obj _) F.entry_enumerate_new (meets_enumT t items n dd sl) ⟨ho, ?_⟩
  generalize hI : ({ cls := .type "tuple_iterator", data := .fields #[.ref t, .int 0 0] } : Obj) = I
  have hz : (s.heap.push I).objs.size = s.heap.objs.size + 1 := Heap.size_push ..
  generalize hE : ({ cls := .type "enumerate", data := .fields #[.none, .bool false, .ref s.heap.objs.size, rawInt 0, .none, .none] } : Obj) = O
  have he : ((s.heap.push I).push O).get? (s.heap.objs.size + 1) = some O := by
    rw [← hz]
    exact Heap.get?_push_size _ (by rw [← hE]; rfl)
  have hi : ((s.heap.push I).push O).get? s.heap.objs.size = some I := Heap.get?_push_of_some _ (Heap.get?_push_size _ (by rw [← hI]; rfl))
  rw [hz]
  subst hI hE
  refine ⟨⟨_, he, rfl⟩, h _ he ⟨_, hi, rfl, rfl⟩ (by rw [Heap.size_push, hz]) fun b o x => Heap.get?_push_of_some _ (Heap.get?_push_of_some _ x)⟩
end
/-- the tuple at a, each item in a new pair -/
def IteT (K : PySem.W.Frag) (a : Addr) : It :=
  ⟨fun i H => ∃ (xs : List V) (x : V), SqT K H a xs ∧ xs[i]? = some x, fun i H v H' => ∃ T x, v = .ref T ∧ H T = none ∧ H' = upd H T (.tup [.int (i : Nat), x]) ∧ ∀ xs, SqT K H a xs → xs[i]? = some x, fun i H => ∃ xs : List V, SqT K H a xs ∧ xs.length = i⟩
theorem turn_enumT {P : Program} {w : World} {K : PySem.W.Frag} {elts : List Expr} {kk : Nat} {tpos : Pos} (a e it : Addr) (ha : a ≠ it) (hae : a ≠ e) :
    Turn P w K (.Tuple elts kk tpos) (IteT K a) [e, it] e (fun i h => (∃ old, IsEnum h e it ((i : Nat) : Int) old) ∧ h.IsTupleIter it a i ∧ e ≠ it) where
  mem := by simp
  obj := fun i h st b hb => by
    obtain ⟨⟨old, he⟩, ⟨o, ho, hc, hd⟩, _⟩ := st
    rcases (show b = e ∨ b = it by simpa using hb) with rfl | rfl
    · exact ⟨_, he, fun v q => nomatch q⟩
    · exact ⟨o, ho, fun v q => by rw [hd] at q; cases q⟩
  keep := fun i h h' st k => ⟨⟨st.1.choose, k e (by simp) _ st.1.choose_spec⟩, st.2.1.at fun o q => k it (by simp) o q, st.2.2⟩
  item := by
    intro X hP hw hK hc i pins s σ H E I hf st hg
    subst hP hw hK
    obtain ⟨⟨old, he⟩, hit, hne⟩ := st
    obtain ⟨xs, x, hq, hx⟩ := hg
    obtain ⟨its, rv, p, hz⟩ := I.tuple hq
    obtain ⟨u, hu, ru⟩ := rv.get hx
    have hel : e < s.heap.objs.size := Heap.lt_size he
    have hil : it < s.heap.objs.size := by obtain ⟨_, q, _⟩ := hit; exact Heap.lt_size q
    have hlt : i < its.toArray.size := by
      have := (List.getElem?_eq_some_iff.mp hu).1
      simpa using this
    have D := Draws.tuple (prog := X.prog) (w := X.w) (A := X.A.in1) (by simp [I.ok.hd hc]) it a ha its.toArray
    refine wpAny_pyNext_enum_itemD D he ⟨hit, p⟩ hlt hne (by simp only [List.mem_cons, List.not_mem_nil, or_false, not_or]; exact ⟨hne, fun z => hae z.symm⟩) fun y h' tk hP ho hst hT hsz hk => ?_
    obtain rfl : u = y := by
      have h1 : its.toArray[i]? = some u := by simpa using hu
      rw [h1] at hP
      exact Option.some.inj hP
    refine ⟨_, rfl, wpAny_letOwnedTupleGo_enum (s := { s with heap := h', toks := tk + 1 }) ho fun h'' he' sb => ?_⟩
    have hT2 : h''.get? s.heap.objs.size = some { cls := .type "tuple", data := .seq #[.int i tk, u] } := (sb.2 _ (Nat.ne_of_gt hel)).trans hT
    have new : ObjOk X.prog X.w (upd H s.heap.objs.size (.tup [.int (i : Nat), x])) h'' s.heap.objs.size (.tup [.int (i : Nat), x]) :=
      ⟨by show 2 ≤ sizeLine; decide, [.int i tk, u], .cons ⟨_, rfl⟩ (.cons ru .nil), ⟨_, hT2, rfl, _, rfl⟩⟩
    have I1 : Inv X pins σ (upd H s.heap.objs.size (.tup [.int (i : Nat), x])) { s with heap := h'', toks := tk + 1 } :=
      I.turnedNew (ch := [e, it]) (fun b ob hb q => (sb.2 b (fun z => hb (by simp [z]))).trans (hk b ob (fun z => hb (by simp [z])) (fun z => hb (by simp [z])) q)) hf (Nat.le_refl _) new
    refine ⟨.ref s.heap.objs.size, _, I1, rfl, ⟨_, x, rfl, I.hok.fresh (Nat.le_refl _), rfl, fun ys hy => by rw [I.tuple_inj hy hq]; exact hx⟩, ⟨⟨u, ?_⟩, hst.1.at fun o q => (sb.2 it (Ne.symm hne)).trans q, hne⟩, fun b hb => ?_⟩
    · rw [show ((i + 1 : Nat) : Int) = (i : Int) + 1 by omega]
      exact he'
    · have hb' : b < s.heap.objs.size := by
        rcases (show b = e ∨ b = it by simpa using hb) with rfl | rfl
        · exact hel
        · exact hil
      rw [upd_ne (Nat.ne_of_lt hb')]
      exact (hf b hb).1
  done := by
    intro X hP hw hK hc i pins s σ H E I hf st hg
    subst hP hw hK
    obtain ⟨⟨old, he⟩, hit, hne⟩ := st
    obtain ⟨xs, hq, hx⟩ := hg
    obtain ⟨its, rv, p, hz⟩ := I.tuple hq
    obtain ⟨f0, f1, f2, f3, f4, f5⟩ := hf it (by simp)
    obtain rfl : its.toArray.size = i := by
      rw [List.size_toArray, ← rv.length]
      exact hx
    have D := Draws.tuple (prog := X.prog) (w := X.w) (A := X.A.in1) (by simp [I.ok.hd hc]) it a ha its.toArray
    exact wpAny_pyNext_enum_endD D he ⟨hit, p⟩ fun h' eb => ⟨rfl, I.turned (t' := s.toks) (fun b o hb q => eb b o hb q) f0 f1 f3 f4 f5⟩
  self := fun A i s Q E st h => wpAny_pyIter_enum st.1.choose_spec h
def iEnumT (K : PySem.W.Frag) (ta : TA) : TI := fun σ H R => ta σ H fun vs H1 => ∃ a xs, vs = [.ref a] ∧ SqT K H1 a xs ∧ R (IteT K a) H1
theorem pi_enumT {X : Cx} {e : Expr} {ta : TA} {p pos tpos : Pos} {elts : List Expr} {kk : Nat} (hg : Gl X "enumerate") (hm : X.mg "enumerate" = none) (ha : PA X [e] ta) (hs : starEach [e] X.env = [(false, eval e X.env)] := by rfl) :
    PI X (.Tuple elts kk tpos) (.Call (.Name "enumerate" p) [e] [] pos) (iEnumT X.K ta) := by
  refine ⟨fun pins s σ H R I h => ?_⟩
  refine Call_ (ld_blt I hg hm boot_enumerate (PyProof.Rows.callWith_type1 (thn (ha.run pos pins s σ H _ I h) fun us s1 ⟨vs, H1, I1, r1, q1⟩ => ?_) hs rfl))
  obtain ⟨a, xs, rfl, hq, q⟩ := q1
  rw [Vals.ref1 r1]
  obtain ⟨its, rv, p', hz⟩ := I1.tuple hq
  have hal : a < s1.heap.objs.size := by obtain ⟨_, q, _⟩ := p'; exact Heap.lt_size q
  refine call_enumT p' fun h' he hit hsz hk => wpAny_pyIter_enum he ?_
  have I2 : Inv X pins σ H1 { s1 with heap := h' } := I1.kept (t' := s1.toks) hk
  refine ⟨s1.heap.objs.size + 1, [s1.heap.objs.size + 1, s1.heap.objs.size], _, _, H1, rfl, I2, turn_enumT a (s1.heap.objs.size + 1) s1.heap.objs.size (Nat.ne_of_lt hal) (Nat.ne_of_lt (Nat.lt_succ_of_lt hal)), ⟨⟨.none, he⟩, hit, Nat.succ_ne_self _⟩, fun b hb => ?_, q⟩
  have hle : s1.heap.objs.size ≤ b := by
    rcases (show b = s1.heap.objs.size + 1 ∨ b = s1.heap.objs.size by simpa using hb) with z | z
    · rw [z]; exact Nat.le_add_right _ _
    · rw [z]; exact Nat.le_refl _
  exact I1.fpOk hle (I1.hok.fresh hle)
/-- over a list or a tuple -/
def iEnumA (K : PySem.W.Frag) (ta : TA) : TI := fun σ H R => ta σ H fun vs H1 => ∃ a xs, vs = [.ref a] ∧ ((SqL K H1 a xs ∧ R (Ite K a) H1) ∨ (SqT K H1 a xs ∧ R (IteT K a) H1))
theorem pi_enumA {X : Cx} {e : Expr} {ta : TA} {p pos tpos : Pos} {elts : List Expr} {kk : Nat} (hg : Gl X "enumerate") (hm : X.mg "enumerate" = none) (ha : PA X [e] ta) (hs : starEach [e] X.env = [(false, eval e X.env)] := by rfl) :
    PI X (.Tuple elts kk tpos) (.Call (.Name "enumerate" p) [e] [] pos) (iEnumA X.K ta) := by
  refine ⟨fun pins s σ H R I h => ?_⟩
  refine Call_ (ld_blt I hg hm boot_enumerate (PyProof.Rows.callWith_type1 (thn (ha.run pos pins s σ H _ I h) fun us s1 ⟨vs, H1, I1, r1, q1⟩ => ?_) hs rfl))
  obtain ⟨a, xs, rfl, q1⟩ := q1
  rw [Vals.ref1 r1]
  have new : ∀ b ∈ [s1.heap.objs.size + 1, s1.heap.objs.size], FpOk X pins H1 b := fun b hb => by
    have hle : s1.heap.objs.size ≤ b := by
      rcases (show b = s1.heap.objs.size + 1 ∨ b = s1.heap.objs.size by simpa using hb) with z | z
      · rw [z]; exact Nat.le_add_right _ _
      · rw [z]; exact Nat.le_refl _
    exact I1.fpOk hle (I1.hok.fresh hle)
  rcases q1 with ⟨hq, q⟩ | ⟨hq, q⟩
  · obtain ⟨its, rv, p', hz⟩ := I1.list hq
    refine call_enumerate_list p'.isList fun h' he hit hsz hk => wpAny_pyIter_enum he ?_
    exact ⟨s1.heap.objs.size + 1, [s1.heap.objs.size + 1, s1.heap.objs.size], _, _, H1, rfl, I1.kept (t' := s1.toks) hk, turn_enum a (s1.heap.objs.size + 1) s1.heap.objs.size, ⟨⟨.none, he⟩, hit, Nat.succ_ne_self _⟩, new, q⟩
  · obtain ⟨its, rv, p', hz⟩ := I1.tuple hq
    have hal : a < s1.heap.objs.size := by obtain ⟨_, q, _⟩ := p'; exact Heap.lt_size q
    refine call_enumT p' fun h' he hit hsz hk => wpAny_pyIter_enum he ?_
    exact ⟨s1.heap.objs.size + 1, [s1.heap.objs.size + 1, s1.heap.objs.size], _, _, H1, rfl, I1.kept (t' := s1.toks) hk, turn_enumT a (s1.heap.objs.size + 1) s1.heap.objs.size (Nat.ne_of_lt hal) (Nat.ne_of_lt (Nat.lt_succ_of_lt hal)), ⟨⟨.none, he⟩, hit, Nat.succ_ne_self _⟩, new, q⟩
end Vf
namespace Vf
open PySem L2 PyProof.Rows PySem.Spec
/-! ## x[::k] of a list: what stands at some places -/
def pickL {α : Type} (is : List Nat) (xs : List α) : List α := is.filterMap (xs[·]?)
theorem vals_pick {xs : List V} {us : List Value} (r : Vals xs us) : ∀ is : List Nat, Vals (pickL is xs) (pickL is us)
  | [] => .nil
  | i :: is => by
    unfold pickL
    rw [List.filterMap_cons, List.filterMap_cons]
    cases e : xs[i]? with
    | none =>
      rw [r.none_of e]
      exact vals_pick r is
    | some x =>
      obtain ⟨u, e2, ru⟩ := r.get e
      rw [e2]
      exact .cons ru (vals_pick r is)
theorem pick_mem {α : Type} {is : List Nat} {xs : List α} {x : α} (h : x ∈ pickL is xs) : x ∈ xs := by
  unfold pickL at h
  obtain ⟨i, _, e⟩ := List.mem_filterMap.mp h
  exact List.mem_of_getElem? e
section
variable {X : Cx}
def tStepL (K : PySem.W.Frag) (te : TE) : TE := fun σ H Q => te σ H fun x H1 => ∃ a xs, x = .ref a ∧ SqL K H1 a xs ∧ ∀ (is : List Nat) (p : Addr), H1 p = none → (pickL is xs).length ≤ xs.length → Q (.ref p) (upd H1 p (.lst (pickL is xs)))
theorem pe_stepL {e : Expr} {te : TE} {n : Int} {k : Nat} {p1 p3 pos : Pos} (hn : n ≠ 0) (he : PE X e te) : PE X (.Subscript e (.Slice none none (some (.Constant (.int n) k p1)) p3) pos) (tStepL X.K te) := by
  refine ⟨fun pins s σ H Q I h => ?_⟩
  refine Subscript_ (thn (he.run pins s σ H _ I h) fun v s1 ⟨x, H1, I1, r1, q1⟩ => ?_)
  obtain ⟨a, xs, ex, hx, q⟩ := q1
  subst ex
  cases r1
  have hst : PO X (some (.Constant (.int n) k p1)) (tPart (tC (.int n))) := po_some pe_int
  refine wpAny_Slice (thn (po_none.run pins s1 σ H1 (fun o H2 => o = none ∧ H2 = H1) I1 ⟨rfl, rfl⟩) fun vl s2 ⟨l, H2, I2, pl, el, e2⟩ => ?_)
  subst el e2
  refine thn (po_none.run pins s2 σ H2 (fun o H3 => o = none ∧ H3 = H2) I2 ⟨rfl, rfl⟩) fun vu s3 ⟨u, H3, I3, pu, eu, e3⟩ => ?_
  subst eu e3
  refine thn (hst.run pins s3 σ H3 (fun o H4 => o = some n ∧ H4 = H3) I3 ⟨n, rfl, rfl, rfl⟩) fun vs s4 ⟨o, H4, I4, ps, eo, e4⟩ => ?_
  subst eo e4
  have I5 : Inv X pins σ H4 { s4 with heap := s4.heap.push { cls := .type "slice", data := .fields #[vl, vu, vs] } } := I4.kept (t' := s4.toks) fun b ob q => Heap.get?_push_of_some _ q
  obtain ⟨its, r, ht, hz⟩ := I5.list hx
  have hlen := r.length
  show wpAny (model X.prog X.w) X.A (subscriptTail e (.Slice none none (some (.Constant (.int n) k p1)) p3) (.ref a) (.ref s4.heap.objs.size)) (EP X pins σ Q) X.xe { s4 with heap := s4.heap.push { cls := .type "slice", data := .fields #[vl, vu, vs] } }
  refine tail_any (ops := [.ref a, .ref s4.heap.objs.size]) ht.isList.typeIs (PySem.slot_list_getitem.lookup) ?_ (by with_unfolding_all rfl)
  refine wpAny_getItem_list_slice ht.isList (Heap.IsSliceOf.new _ vl vu vs) pl pu ps (fun z => hn (Option.some.inj z)) ?_ (by rw [List.size_toArray]; omega)
  obtain ⟨is, his⟩ : ∃ is : List Nat, slicePick its.toArray none none (some n) = (pickL is its).toArray := ⟨_, by
    unfold slicePick pickL
    simp only [List.getElem?_toArray]
    rfl⟩
  rw [his]
  have vp := vals_pick r is
  have hl : (pickL is xs).length ≤ xs.length := by
    have := slicePick_size_le its.toArray none none (some n)
    rw [his, List.size_toArray, List.size_toArray, ← vp.length, ← r.length] at this
    exact this
  refine ⟨.ref _, _, I5.laid (t' := s4.toks) (o := .lst (pickL is xs)) (fun b ob q => Heap.get?_push_of_some _ q) (Nat.le_refl _) ?_, rfl, q is _ (I5.hok.fresh (Nat.le_refl _)) hl⟩
  exact ⟨by omega, _, 0, vp, Heap.get?_push_size _ rfl⟩
end
end Vf
namespace Vf
open PySem L2 PyProof.Rows PySem.Spec
/-! ## dicts whose keys are flat tuples of data -/
def flatN : PyData → Bool
  | .none | .bool _ | .int _ | .str _ => true
  | _ => false
def nkF : PyData → NestedKey
  | .bool b => .num (if b = true then 1 else 0)
  | .int i => .num i
  | .str s => .text s
  | _ => .none
def nkT (ds : List PyData) : NestedKey := .tup (ds.map nkF)
theorem nk_depth : ∀ ds : List PyData, NestedKey.depthAll (ds.map nkF) = 0
  | [] => rfl
  | d :: ds => by
    rw [List.map_cons, NestedKey.depthAll, nk_depth ds]
    cases d <;> rfl
theorem nested_all {H : Hp} {h : Heap} : ∀ {xs : List V} {ds : List PyData} {us : List Value}, DvAll H xs ds → Vals xs us → ds.all flatN = true → NestedAll h (ds.map nkF) us
  | _, _, _, .nil, .nil, _ => .nil
  | x :: xs, d :: ds, u :: us, .cons a t, .cons r rs, f => by
    rw [List.all_cons, Bool.and_eq_true] at f
    refine .cons ?_ (nested_all t rs f.2)
    cases a with
    | non => obtain rfl : u = .none := r; exact .none
    | bl b => obtain rfl : u = .bool b := r; exact .bool rfl
    | int i => obtain ⟨t, rfl⟩ : ∃ t, u = .int i t := r; exact .int i t
    | str s => obtain ⟨t, rfl⟩ : ∃ t, u = .str s t := r; exact .text s t
    | lst _ _ => exact absurd f.1 Bool.false_ne_true
    | tup _ _ => exact absurd f.1 Bool.false_ne_true
    | dic _ _ => exact absurd f.1 Bool.false_ne_true
section
variable {P : Program} {w : World}
theorem nested_tup {H : Hp} {h : Heap} (ok : HOk P w H h) {b : Addr} {ds : List PyData} (dv : Dv H (.ref b) (.tuple ds)) (f : ds.all flatN = true) : (nestedKind P w).is h (nkT ds) b := by
  cases dv with
  | @tup _ xs _ e a =>
    obtain ⟨_, its, r, o, h1, h2, n, h3⟩ := (show ObjOk P w H h b (.tup xs) from ok b _ e)
    refine ⟨.tup h1 h2 h3 (nested_all a r f), ?_⟩
    show NestedKey.depthAll (ds.map nkF) + 1 ≤ 8
    rw [nk_depth]
    decide
abbrev KdX := List (NestedKey × Addr × Value)
def kdRaw (P : Program) (w : World) (D : Addr) (xs : KdX) (h : Heap) : Prop := (D == sysModules) = false ∧ xs.length ≤ sizeLine ∧ ∃ o es ep, h.get? D = some o ∧ o.ExactDict ∧ o.data = .dict es ep ∧ es.toList = xs.map (entryOfKey (nestedKind P w)) ∧ (xs.map (·.1)).Nodup
def kdO (P : Program) (w : World) (D : Addr) (xs : KdX) : HO := .ext (kdRaw P w D xs)
theorem kd_ok {D : Addr} {xs : KdX} {H : Hp} {h : Heap} (r : kdRaw P w D xs h) : ObjOk P w H h D (kdO P w D xs) := by
  obtain ⟨a, b, o, es, ep, e, c, d, k, n⟩ := r
  exact ⟨⟨a, b, o, es, ep, e, c, d, k, n⟩, ⟨o, e⟩, fun h1 h2 ⟨a1, b1, o1, es1, ep1, e1, r1⟩ keep => ⟨a1, b1, o1, es1, ep1, keep _ e1, r1⟩⟩
theorem kd_empty {H : Hp} (h : Heap) (hb : sysModules < h.objs.size) : ObjOk P w H (h.push { cls := .type "dict", data := .dict #[] }) h.objs.size (kdO P w h.objs.size []) :=
  kd_ok ⟨beq_eq_false_iff_ne.mpr (Ne.symm (Nat.ne_of_lt hb)), Nat.zero_le _, _, #[], 0, Heap.get?_push_size _ rfl, ⟨rfl, rfl, rfl⟩, rfl, rfl, List.nodup_nil⟩
/-- its keys' tuples stand -/
def KeysOk (H : Hp) (xs : KdX) : Prop := ∀ p ∈ xs, ∃ ds, Dv H (.ref p.2.1) (.tuple ds) ∧ ds.all flatN = true ∧ p.1 = nkT ds
theorem kd_dict {H : Hp} {h : Heap} {D : Addr} {xs : KdX} (ok : HOk P w H h) (e : H D = some (kdO P w D xs)) (k : KeysOk H xs) : (D == sysModules) = false ∧ xs.length ≤ sizeLine ∧ h.DictOfH (nestedKind P w) D xs := by
  obtain ⟨⟨a, b, o, es, ep, e1, c, d, he, hn⟩, _⟩ := (show ObjOk P w H h D (kdO P w D xs) from ok D _ e)
  refine ⟨a, b, o, es, ep, e1, c, d, he, fun x hx => ?_, hn⟩
  obtain ⟨ds, dv, f, ek⟩ := k x hx
  rw [ek]
  exact nested_tup ok dv f
theorem kd_dictF {H : Hp} {h : Heap} {D : Addr} {o : Obj} {xs : KdX} (ok : HOk P w H h) (e : H D = some (.frz o (kdO P w D xs))) (k : KeysOk H xs) : (D == sysModules) = false ∧ xs.length ≤ sizeLine ∧ h.DictOfH (nestedKind P w) D xs := by
  obtain ⟨_, ⟨a, b, o, es, ep, e1, c, d, he, hn⟩, _⟩ := (show ObjOk P w H h D (.frz o (kdO P w D xs)) from ok D _ e)
  refine ⟨a, b, o, es, ep, e1, c, d, he, fun x hx => ?_, hn⟩
  obtain ⟨ds, dv, f, ek⟩ := k x hx
  rw [ek]
  exact nested_tup ok dv f
theorem storedH_len (xs : KdX) (k : NestedKey) (a : Addr) (v : Value) : (storedH xs k a v).length ≤ xs.length + 1 := by
  unfold storedH
  split <;> simp
end
section
variable {X : Cx}
/-- d[k] = v by a comprehension, v a truth -/
theorem d_dictSetT {pins : List (Addr × Obj)} {σ : L2.St} {H : Hp} {s : Shared} {E : Value → Shared → Prop} {D : Addr} {xs : KdX} {b : Addr} {ds : List PyData} {t : Bool} {u r : Value} {Q : Unit → Shared → Prop} (hu : X.A.units + 8 < cLine) (I : Inv X pins σ H s) (hD : H D = some (kdO X.prog X.w D xs)) (hk : KeysOk H xs) (hz : xs.length < sizeLine)
    (hb : Dv H (.ref b) (.tuple ds)) (f : ds.all flatN = true) (ry : RelV (.ref b) u) (rv : RelV (.bl t) r) (h : ∀ s', Inv X pins σ (upd H D (kdO X.prog X.w D (storedH xs (nkT ds) b (.bool t)))) s' → Q () s') : wpAny (model X.prog X.w) X.A (dictSet D u r) Q E s := by
  obtain rfl : u = .ref b := ry
  obtain rfl : r = .bool t := rv
  obtain ⟨hd, z, dd⟩ := kd_dict I.hok hD hk
  refine wpAny_dictSet_heap (knd := nestedKind X.prog X.w) hu (nested_tup I.hok hb f) dd (fun h' dd' hs => h _ ?_) z
  obtain ⟨o, es, ep, e, c, d, k, _, n⟩ := dd'
  have hl := storedH_len xs (nkT ds) b (.bool t)
  exact d_write I (by rw [hD]; exact True.intro) hs ⟨o, e⟩ (kd_ok ⟨hd, by omega, o, es, ep, e, c, d, k, n⟩)
def tDcT (P : Program) (w : World) (wi : TI) (g : TG) (tt : TT) (tk tv : TE) (vs : List Nat) : TE := fun σ H Q => wi σ H fun J H1 => ∀ D, H1 D = none → ∃ W : Nat → Nat → Hp → Prop, (∃ m, W 0 m (upd H1 D (kdO P w D []))) ∧ ∀ i m H, W i m H →
  (J.stop i H ∧ ∃ xs, H D = some (kdO P w D xs) ∧ ∀ o, Q (.ref D) (upd H D (.frz o (kdO P w D xs)))) ∨ (J.go i H ∧ ∃ Nx : Hp → Prop, (∀ H', Nx H' → ∃ m', m' < m ∧ W (i + 1) m' H') ∧ ∀ x H', J.yld i H x H' → g x (wipe σ vs) H' fun σ2 H2 => wipe σ2 vs = wipe σ vs ∧ tt σ2 H2 fun b H3 =>
    if b = true then tk σ2 H3 fun y H4 => tv σ2 H4 fun z H5 => ∃ (xs : KdX) (b : Addr) (ds : List PyData) (t : Bool), y = .ref b ∧ z = .bl t ∧ Dv H5 (.ref b) (.tuple ds) ∧ ds.all flatN = true ∧ KeysOk H5 xs ∧ H5 D = some (kdO P w D xs) ∧ xs.length < sizeLine ∧ Nx (upd H5 D (kdO P w D (storedH xs (nkT ds) b (.bool t)))) else Nx H3)
theorem pe_dcT {kx vx tg iter : Expr} {ifs : List Expr} {scope : Scope} {own : List (PySem.Str × Nat)} {pos : Pos} {wi : TI} {g : TG} {tt : TT} {tk tv : TE} (hu : X.A.units + 8 < cLine) (hc : X.calm = true) (hN : X.N.Nodup) (hi : PI X tg iter wi) (ok : BlkOk X.N X.env.scope scope own)
    (hg : ∀ (s : Shared) (H : Hp) (C : Addr) (cl : List (PySem.Str × Addr)) (fp : List Addr), PG (X.blk s H scope (compEnvC scope cl C X.env) fp) tg g) (ht : ∀ (s : Shared) (H : Hp) (C : Addr) (cl : List (PySem.Str × Addr)) (fp : List Addr), PTs (X.blk s H scope (compEnvC scope cl C X.env) fp) ifs tt)
    (hk : ∀ (s : Shared) (H : Hp) (C : Addr) (cl : List (PySem.Str × Addr)) (fp : List Addr), PE (X.blk s H scope (compEnvC scope cl C X.env) fp) kx tk) (he : ∀ (s : Shared) (H : Hp) (C : Addr) (cl : List (PySem.Str × Addr)) (fp : List Addr), PE (X.blk s H scope (compEnvC scope cl C X.env) fp) vx tv)
    (hs : ∀ x, foldedSetIterable iter X.env x = pure x := by intro _; rfl) :
    PE X (.DictComp kx vx [⟨tg, iter, ifs, 0⟩] scope pos) (tDcT X.prog X.w wi g tt tk tv (own.map (·.2))) := by
  refine ⟨fun pins s σ H Q I h => ?_⟩
  rw [arm_eval_DictComp]
  refine wpAny_comprehension_free (use := none) rfl hs (closure_ok fun y hy e => ?_) ok.kind (fun y hy e => by rw [ok.uniq y hy, e]) (thn (hi.run pins s σ H _ I h) fun _ s1 h1 => thn h1 fun _ s2 h2 => ?_)
  · exact (ok.free y hy e).elim (fun k => I.ok.has _ (.inl k)) fun k => I.ok.has _ (.inr k)
  obtain ⟨it, fp, tn, J, H2, rfl, I2, T, st2, f2, q⟩ := h2
  refine wpAny_newObj_type (newEnv_comp ?_)
  obtain ⟨D, hD⟩ : ∃ D, s2.heap.objs.size = D := ⟨_, rfl⟩
  rw [hD]
  obtain ⟨W, ⟨m0, w0⟩, turn⟩ := q D (I2.hok.fresh (Nat.le_of_eq hD))
  obtain ⟨s3, hs3⟩ : ∃ s3 : Shared, s3 = { s2 with heap := s2.heap.push { cls := .type "dict", data := .dict #[] } } := ⟨_, rfl⟩
  have hh3 : s3.heap = s2.heap.push { cls := .type "dict", data := .dict #[] } := by rw [hs3]
  have up3 : ∀ b o, s2.heap.get? b = some o → s3.heap.get? b = some o := fun b o e => by rw [hh3]; exact Heap.get?_push_of_some _ e
  have I3 : Inv X pins σ (upd H2 D (kdO X.prog X.w D [])) s3 := by
    rw [hs3]
    refine I2.laid (t' := s2.toks) (fun b o e => Heap.get?_push_of_some _ e) (Nat.le_of_eq hD) ?_
    rw [← hD]
    exact kd_empty s2.heap I2.big
  generalize hH3 : upd H2 D (kdO X.prog X.w D []) = H3 at I3 w0
  have f3 : ∀ b ∈ fp, FpOk X pins H3 b ∧ b < s3.heap.objs.size := fun b hb => by
    obtain ⟨o, e, _⟩ := T.obj _ _ st2 b hb
    have lt := Heap.lt_size e
    refine ⟨⟨?_, (f2 b hb).2⟩, by rw [hh3, Heap.size_push]; exact Nat.lt_succ_of_lt lt⟩
    rw [← hH3, upd_ne (by rw [← hD]; exact Nat.ne_of_lt lt)]
    exact (f2 b hb).1
  have st3 : tn 0 s3.heap := T.keep _ _ _ st2 fun b _ o e => up3 b o e
  have I4 := block_start I3 ok hN f3
  have pg := hg s3 H3 s3.heap.objs.size (cellsFrom (s3.heap.objs.size + 1) scope.names (cloFrom X.env.cells scope.names [])) fp
  have pt := ht s3 H3 s3.heap.objs.size (cellsFrom (s3.heap.objs.size + 1) scope.names (cloFrom X.env.cells scope.names [])) fp
  have pk := hk s3 H3 s3.heap.objs.size (cellsFrom (s3.heap.objs.size + 1) scope.names (cloFrom X.env.cells scope.names [])) fp
  have pe := he s3 H3 s3.heap.objs.size (cellsFrom (s3.heap.objs.size + 1) scope.names (cloFrom X.env.cells scope.names [])) fp
  rw [← hs3]
  show codeAny (model X.prog X.w) X.A (.compStart (.DictComp kx vx [⟨tg, iter, ifs, 0⟩] scope pos) 0 (.ref it) (.ref D) (compEnvC scope (cellsFrom (s3.heap.objs.size + 1) scope.names (cloFrom X.env.cells scope.names [])) s3.heap.objs.size X.env))
    (compPost (model X.prog X.w) X.A X.xe none (EP X pins σ Q) (.ref D) s3.heap.objs.size) { s3 with heap := pushCells (s3.heap.push { cls := .type "dict", data := .dict #[] }) scope.names }
  obtain ⟨ce, hce⟩ : ∃ ce, ce = compEnvC scope (cellsFrom (s3.heap.objs.size + 1) scope.names (cloFrom X.env.cells scope.names [])) s3.heap.objs.size X.env := ⟨_, rfl⟩
  have loc : ce.locals = s3.heap.objs.size := by rw [hce]; rfl
  rw [← hce] at I4 pg pt pk pe ⊢
  obtain ⟨s4, hs4⟩ : ∃ s4 : Shared, s4 = { s3 with heap := pushCells (s3.heap.push { cls := .type "dict", data := .dict #[] }) scope.names } := ⟨_, rfl⟩
  rw [← hs4] at I4 ⊢
  have st4 : tn 0 s4.heap := T.keep _ _ _ st3 fun b _ o e => by
    rw [hs4]
    exact pushCells_keeps _ _ _ _ (Heap.get?_push_of_some _ e)
  have pinned : ∀ {σ' : L2.St} {H' : Hp} {s' : Shared}, Inv (X.blk s3 H3 scope ce fp) [] σ' H' s' → (∀ b ∈ fp, H' b = none) → ∀ b ∈ fp, FpOk (X.blk s3 H3 scope ce fp) [] H' b := fun J' n b hb =>
    ⟨n b hb, (J'.ok.exf b hb).1, J'.ok.exfs b hb, .inl hb, fun x c e => (J'.ok.exf b hb).2 x c e, fun p hp => by cases hp⟩
  have loop : codeAny (model X.prog X.w) X.A (.compLoop (.DictComp kx vx [⟨tg, iter, ifs, 0⟩] scope pos) 0 (.ref it) (.ref D) ce) (compPost (model X.prog X.w) X.A X.xe none (EP X pins σ Q) (.ref D) s3.heap.objs.size) s4 := by
    refine compLoop_anyD (fun n s' => ∃ i H', Inv (X.blk s3 H3 scope ce fp) [] (wipe σ (own.map (·.2))) H' s' ∧ tn i s'.heap ∧ (∀ b ∈ fp, H' b = none) ∧ W i n H') ?_ m0 ⟨0, H3, I4, st4, fun b hb => (f3 b hb).1.1, w0⟩
    rintro n s5 ⟨i, H5, I5, st5, n5, w5⟩
    rcases turn i n H5 w5 with ⟨stop, xsE, hDE, fin⟩ | ⟨go, N, hN', step⟩
    · refine thnF (T.done (X.blk s3 H3 scope ce fp) rfl rfl rfl hc i [] s5 _ H5 (fun _ _ => False) I5 (pinned I5 n5) st5 stop) fun r s6 ⟨hr, I6⟩ => ?_
      subst hr
      have I7 : Inv X pins σ H5 s6 := I3.call' (ch := fp) I6.os I6.base I6.hok I6.bare fun b hb => ⟨(f3 b hb).1.2.2.2.1, (f3 b hb).1.2.1, (f3 b hb).1.2.2.2.2.1, (f3 b hb).1.2.2.2.2.2⟩
      have nC : H5 s3.heap.objs.size = none := loc ▸ (I6.free : H5 ce.locals = none)
      obtain ⟨m, hn, _⟩ := I6.loc
      have hn : s6.heap.Ns s3.heap.objs.size m := loc ▸ (hn : s6.heap.Ns ce.locals m)
      refine ⟨m, hn, fun h7 sb => ?_⟩
      obtain ⟨a0, a1, a2, a3, a4, a5⟩ := I3.fpOk (Nat.le_refl _) nC
      obtain ⟨od, I9⟩ := (I7.turned (t' := s6.toks) (fun b o nb e => (sb.2 b nb).trans e) a0 a1 a3 a4 a5).lock hDE trivial
      exact ⟨.ref D, _, I9, rfl, fin od⟩
    · refine thnF (T.item (X.blk s3 H3 scope ce fp) rfl rfl rfl hc i [] s5 _ H5 (fun _ _ => False) I5 (pinned I5 n5) st5 go) fun r s6 ⟨u, hr, h6⟩ => ?_
      subst hr
      refine thnF h6 fun _ s7 ⟨x, H7, I7, r7, y7, st7, n7⟩ => ?_
      have I8 := I7.pinned (pinned I7 n7) (T.obj _ _ st7)
      refine thnF (pg.run _ s7 _ H7 x u _ I8 r7 (step x H7 y7)) fun _ s8 ⟨σ8, H8, I9, hw, q8⟩ => ?_
      refine thnF (pt.run _ s8 σ8 H8 _ I9 q8) fun b s9 ⟨H9, I10, q9⟩ => ?_
      have back : ∀ {s' : Shared} {H' : Hp}, Inv (X.blk s3 H3 scope ce fp) ([] ++ pinsAt fp s7.heap) σ8 H' s' → N H' → ∃ m, m < n ∧ ∃ i H', Inv (X.blk s3 H3 scope ce fp) [] (wipe σ (own.map (·.2))) H' s' ∧ tn i s'.heap ∧ (∀ b ∈ fp, H' b = none) ∧ W i m H' := fun {s' H'} J' nx => by
        obtain ⟨m', lt, w'⟩ := hN' H' nx
        have kept : ∀ b ∈ fp, ∀ o, s7.heap.get? b = some o → s'.heap.get? b = some o ∧ H' b = none := fun b hb o e => by
          have z := J'.pin (b, o) (List.mem_append_right _ (List.mem_append_right _ (mem_pinsAt hb e)))
          exact ⟨z.1, z.2.1⟩
        refine ⟨m', lt, i + 1, H', (J'.unpinned (pins := [])).weak (by rw [← hw, wipe_length]) (fun j v e => ?_), T.keep _ _ _ st7 fun b hb o e => (kept b hb o e).1, fun b hb => ?_, w'⟩
        · rw [← hw] at e
          exact (wipe_some e).1
        · obtain ⟨o, e, _⟩ := T.obj _ _ st7 b hb
          exact (kept b hb o e).2
      cases b with
      | false =>
        rw [if_neg (by decide)] at q9 ⊢
        exact back I10 q9
      | true =>
        rw [if_pos rfl] at q9 ⊢
        refine thnF (pk.run _ s9 σ8 H9 _ I10 q9) fun z s10 ⟨yk, H10, I11, rk, q11⟩ => ?_
        refine thnF (pe.run _ s10 σ8 H10 _ I11 q11) fun z2 s11 ⟨yv, H11, I12, rv, xs, bb, ds, t, ek, ev, dv, fl, ko, hD11, hz, nx⟩ => ?_
        subst ek ev
        exact d_dictSetT (X := X.blk s3 H3 scope ce fp) hu I12 hD11 ko hz dv fl rk rv fun s12 I13 => back I13 nx
  exact codeAny_compStart_dict loop (T.self X.A 0 _ _ _ st4 loop)
end
end Vf
namespace Vf
open PySem L2 PyProof.Rows PySem.Spec
/-! ## a tuple in such a dict, list of its keys -/
section
variable {X : Cx}
def rInKd (P : Program) (w : World) : R2 := fun x y H Q => ∃ (D b : Addr) (o : Obj) (xs : KdX) (ds : List PyData), x = .ref b ∧ y = .ref D ∧ H D = some (.frz o (kdO P w D xs)) ∧ KeysOk H xs ∧ Dv H (.ref b) (.tuple ds) ∧ ds.all flatN = true ∧ Q (.bl (atKey xs (nkT ds)).isSome) H
theorem op_in_kd' (hu : X.A.units + 8 + 1 < cLine) : OpR X (compareOp .In) (rInKd X.prog X.w) := by
  intro pins s σ H x y v u Q I rx ry ⟨D, b, o, xs, ds, e1, e2, hD, ko, dv, fl, q⟩
  subst e1 e2
  obtain rfl : v = .ref b := rx
  obtain rfl : u = .ref D := ry
  obtain ⟨hd, _, dd⟩ := kd_dictF I.hok hD ko
  exact wpAny_in_heap (knd := nestedKind X.prog X.w) (by show X.A.in1.units + 8 < cLine; have : X.A.in1.units = X.A.units + 1 := rfl; omega) (nested_tup I.hok dv fl) hd dd ⟨.bl (atKey xs (nkT ds)).isSome, H, I.tok _, rfl, q⟩
theorem call_list_kd (hc : X.calm = true) : CallR X (.type "list") (fun xs H Q => ∃ (D : Addr) (o : Obj) (ys : KdX), xs = [.ref D] ∧ H D = some (.frz o (kdO X.prog X.w D ys)) ∧ ∀ p, H p = none → Q (.ref p) (upd H p (.lst (ys.map fun y => V.ref y.2.1)))) := by
  intro pins s σ H xs us R I rr ⟨D, oF, ys, e, hD, q⟩
  subst e
  obtain ⟨u, rfl, ru⟩ := rr.one
  obtain rfl : u = .ref D := ru
  obtain ⟨_, ⟨lo, z, o, es, ep, e1, ex, ed, he, hn⟩, _⟩ := (show ObjOk X.prog X.w H s.heap D (.frz oF (kdO X.prog X.w D ys)) from I.hok D _ hD)
  have raw : s.heap.DictRaw D es ep := ⟨o, e1, ex, ed⟩
  have hsz : es.size = ys.length := by rw [← Array.length_toList, he, List.length_map]
  refine PySem.W.kdl_call (KdlSrc.rawDict lo) (I.ok.hd hc) raw (by omega) fun h' tk acc c keep new items => ?_
  have ea : acc.toList = ys.map fun y => Value.ref y.2.1 := by
    apply List.ext_getElem?
    intro j
    rw [Array.getElem?_toList, List.getElem?_map]
    by_cases hj : j < ys.length
    · have ja : j < acc.size := by rw [items.1]; omega
      obtain ⟨hi, hv⟩ := items.2 j acc[j] (Array.getElem?_eq_getElem ja)
      rw [Array.getElem?_eq_getElem ja, hv, List.getElem?_eq_getElem hj]
      have q2 : es[j]? = (ys[j]?).map (entryOfKey (nestedKind X.prog X.w)) := by rw [← Array.getElem?_toList, he, List.getElem?_map]
      rw [Array.getElem?_eq_getElem hi, List.getElem?_eq_getElem hj] at q2
      rw [show es[j] = entryOfKey (nestedKind X.prog X.w) ys[j] from Option.some.inj q2]
      rfl
    · rw [List.getElem?_eq_none (by omega), Array.getElem?_eq_none (by rw [items.1]; omega)]
      rfl
  refine ⟨.ref s.heap.objs.size, _, I.laid (t' := tk) (o := .lst (ys.map fun y => V.ref y.2.1)) keep (Nat.le_refl _) ⟨by rw [List.length_map]; exact z, acc.toList, c, ?_, new⟩, rfl, q _ (I.hok.fresh (Nat.le_refl _))⟩
  rw [ea]
  have all : ∀ zs : KdX, Vals (zs.map fun y => V.ref y.2.1) (zs.map fun y => Value.ref y.2.1) := fun zs => by
    induction zs with
    | nil => exact .nil
    | cons y zs ih => exact .cons rfl ih
  exact all ys
end
end Vf
namespace Vf
open PySem L2 PyProof.Rows PySem.Spec
/-! ## for k in such a dict, locked -/
section
variable {P : Program} {w : World} {K : PySem.W.Frag} {tg : Expr}
/-- the keys of the dict at D, whose object is known -/
def ItKd (P : Program) (w : World) (D : Addr) (o : Obj) (xs : KdX) : It :=
  ⟨fun i H => H D = some (.frz o (kdO P w D xs)) ∧ i < xs.length, fun i H x H' => H' = H ∧ ∃ p, xs[i]? = some p ∧ x = .ref p.2.1, fun i H => H D = some (.frz o (kdO P w D xs)) ∧ xs.length ≤ i⟩
theorem kd_frz {H : Hp} {h : Heap} {D : Addr} {o : Obj} {xs : KdX} (ok : HOk P w H h) (e : H D = some (.frz o (kdO P w D xs))) : (D == sysModules) = false ∧ h.get? D = some o ∧ o.ExactDict ∧ ∃ es ep, o.data = .dict es ep ∧ es.size = xs.length ∧ es.toList = xs.map (entryOfKey (nestedKind P w)) ∧ xs.length ≤ sizeLine := by
  obtain ⟨g, ⟨lo, z, o2, es, ep, g2, ex, ed, he, hn⟩, _⟩ := (show ObjOk P w H h D (.frz o (kdO P w D xs)) from ok D _ e)
  rw [g] at g2
  cases g2
  exact ⟨lo, g, ex, es, ep, ed, by rw [← Array.length_toList, he, List.length_map], he, z⟩
theorem turn_kd {D it : Addr} {o : Obj} {xs : KdX} {es : Array DictEntry} {ep : Nat} (hod : o.data = .dict es ep) (hsz : es.size = xs.length) : Turn P w K tg (ItKd P w D o xs) [it] it (fun i h => h.IsKeyIter it D i es.size ep) where
  mem := by simp
  obj := fun i h st b hb => by
    obtain rfl : b = it := by simpa using hb
    obtain ⟨oi, e, c, d⟩ := st
    exact ⟨oi, e, fun v z => by rw [d] at z; cases z⟩
  keep := fun i h h' st k => st.at fun oi e => k it (by simp) oi e
  item := by
    intro X hP hw hK hc i pins s σ H E I hf st hg
    subst hP hw hK
    obtain ⟨hD, hi⟩ := hg
    obtain ⟨f0, f1, f2, f3, f4, f5⟩ := hf it (by simp)
    obtain ⟨lo, hgd, hx, es', ep', hdt, hsz', he, _⟩ := kd_frz I.hok hD
    obtain ⟨rfl, rfl⟩ := dict_ep hod hdt
    have ne : D ≠ it := fun z => by rw [z, f0] at hD; cases hD
    have W := Walks.rawKeys (prog := X.prog) (w := X.w) (I.ok.hd hc) it D ne es' ep'
    refine W.item i s _ _ (by omega) ⟨st, o, hgd, hx, hdt⟩ fun v h' tk hv st' kk => ?_
    obtain ⟨hj, hv⟩ := hv
    have I1 : Inv X pins σ H { s with heap := h', toks := tk } := I.turned (fun b ob hb e => kk b ob (by simpa using hb) e) f0 f1 f3 f4 f5
    obtain ⟨oi, e, c, dd⟩ := id st'.1
    have q2 : es'[i]? = (xs[i]?).map (entryOfKey (nestedKind X.prog X.w)) := by rw [← Array.getElem?_toList, he, List.getElem?_map]
    rw [Array.getElem?_eq_getElem hj, List.getElem?_eq_getElem hi] at q2
    have ek : es'[i] = entryOfKey (nestedKind X.prog X.w) xs[i] := Option.some.inj q2
    rw [ek] at hv
    exact ⟨v, rfl, go_of (s := { s with heap := h', toks := tk }) e c dd (by decide) ⟨.ref xs[i].2.1, H, I1, hv, ⟨rfl, xs[i], List.getElem?_eq_getElem hi, rfl⟩, st'.1, fun b hb => (hf b hb).1⟩⟩
  done := by
    intro X hP hw hK hc i pins s σ H E I hf st hg
    subst hP hw hK
    obtain ⟨hD, hi⟩ := hg
    obtain ⟨f0, f1, f2, f3, f4, f5⟩ := hf it (by simp)
    obtain ⟨lo, hgd, hx, es', ep', hdt, hsz', he, _⟩ := kd_frz I.hok hD
    obtain ⟨rfl, rfl⟩ := dict_ep hod hdt
    exact next_key_end (I.ok.hd hc) st hgd hdt rfl (by omega) fun h' eb => ⟨rfl, I.turned (t' := s.toks) (fun b ob hb e => eb b ob hb e) f0 f1 f3 f4 f5⟩
  self := fun A i s Q E st h => by
    refine wpAny_pyIter_slot st.typeIs F.slot_dict_keyiterator_iter (wpAny_call_entry F.slot_dict_keyiterator_iter st.typeIs F.entry_dict_keyiterator_iter ?_ (F.args_dict_keyiterator_iter_1 _))
    show wpAny _ _ (ret (.ref it)) _ _ s
    exact wpAny_pure ⟨_, rfl, "dict_keyiterator", _, st.typeIs, F.slot_dict_keyiterator_next.lookup, h⟩
def iKeysKd (P : Program) (w : World) (td : TE) : TI := fun σ H R => td σ H fun x H1 => ∃ D o xs, x = .ref D ∧ H1 D = some (.frz o (kdO P w D xs)) ∧ R (ItKd P w D o xs) H1
variable {X : Cx} {e : Expr} {td : TE}
theorem pi_kd (he : PE X e td) : PI X tg e (iKeysKd X.prog X.w td) := by
  refine ⟨fun pins s σ H R I h => ?_⟩
  refine thn (he.run pins s σ H _ I h) fun u s1 ⟨x, H1, I1, rx, D, o, xs, ex, hD, q⟩ => ?_
  subst ex
  obtain rfl : u = Value.ref D := rx
  obtain ⟨lo, hgd, hx, es, ep, hdt, hsz, _, _⟩ := kd_frz I1.hok hD
  exact iter_keys lo hgd hx hdt (pi_one (tk := s1.toks) I1 _ (turn_kd hdt hsz) ⟨_, Heap.get?_push_size _ rfl, rfl, rfl⟩ q)
end
end Vf
namespace Vf
open PySem L2 PyProof.Rows PySem.Spec
/-! ## what words come to, of whole numbers: as the program reckons -/
def fl2 : List Str := ["sum", "less", "twice"]
def qr2 : List Str := ["quot", "rest"]
def lr2 : List Str := ["left", "right"]
def hasU (f : Str) : Bool := decide (117 ∈ f.cps.toList)
def hasS (f : Str) : Bool := decide (115 ∈ f.cps.toList)
def sgW (x : Int) (w : Nat) : Int := if x ≥ 2 ^ (w - 1) then x - 2 ^ w else x
def bitsP (h : Str) (a b : Int) : Int :=
  if h = "and" then Builtin.bitAnd a b else if h = "or" then Builtin.bitOr a b else if h = "xor" then Builtin.bitXor a b else Builtin.bitNot a
def wholeP (h : Str) (a b : Int) : Int :=
  if h ∈ (["sum", "twice"] : List Str) then a + b else if h = "less" then a - b else if h = "times" then a * b else if h = "quot" then a / b else if h = "rest" then a % b
  else if h = "left" then a * 2 ^ b.toNat else if h = "right" then a / 2 ^ b.toNat else bitsP h a b
def overP (h f : Str) (a b : Int) (w : Nat) : Bool :=
  if hasU f = true ∧ ¬ (0 ≤ wholeP h a b ∧ wholeP h a b < 2 ^ w) then true
  else hasS f && !(decide (-(2 ^ (w - 1)) ≤ wholeP h (sgW a w) (sgW b w)) && decide (wholeP h (sgW a w) (sgW b w) < 2 ^ (w - 1)))
def reckP (h f : Str) (w : Nat) (a b : Int) : Int :=
  if h ∈ qr2 ∧ (b = 0 ∨ b = -2) then -3 else if a = -2 ∨ b = -2 then -2 else if h ∈ fl2 ∧ overP h f a b w = true then -2
  else if h ∈ lr2 ∧ b ≥ w then -2 else Builtin.bitAnd (wholeP h a b) (2 ^ w - 1)
def holdsP (r : Str) (a b : Int) (w : Nat) : Bool := if r = "same" then decide (a = b) else if r = "unlike" then !decide (a = b) else if r = "below" then decide (a < b) else decide (sgW a w < sgW b w)
/-! .. as the law reckons -/
def asS (x : Int) (w : Nat) : Int := x - 2 ^ w * (if 2 * x ≥ 2 ^ w then 1 else 0)
def tellsL (r : Str) (a b : Int) (w : Nat) : Bool := if r = "under" then decide (asS a w < asS b w) else if r = "below" then decide (a < b) else decide (a = b) == decide (r = "same")
def flagL (f : Str) (p s : Int) (w : Nat) : Int :=
  if hasU f = true ∧ ¬ (0 ≤ p ∧ p < 2 ^ w) then -2 else if hasS f = true ∧ ¬ (0 - 2 ^ w ≤ 2 * s ∧ 2 * s < 2 ^ w) then -2 else p % 2 ^ w
def plainL (h : Str) (a b : Int) (w : Nat) : Int :=
  if h ∈ lr2 then (if b ≥ w then -2 else if h = "left" then a * 2 ^ b.toNat % 2 ^ w else a / 2 ^ b.toNat)
  else if h ∈ qr2 then (if h = "rest" then a % b else a / b) else if h = "times" then a * b % 2 ^ w else if h = "not" then 2 ^ w - 1 - a
  else if h = "and" then Builtin.bitAnd a b else if h = "or" then Builtin.bitOr a b else Builtin.bitXor a b
def sgL (h : Str) : Int := if h = "less" then -1 else 1
def reckL (h f : Str) (w : Nat) (a b : Int) : Int :=
  if h ∈ qr2 ∧ (b = 0 ∨ b = -2) then -3 else if a = -2 ∨ b = -2 then -2
  else if h ∈ fl2 then flagL f (a + b * sgL h) (asS a w + asS b w * sgL h) w else plainL h a b w
/-! both alike -/
def wrds : List Str := ["sum", "less", "twice", "and", "or", "xor", "not", "times", "quot", "rest", "left", "right"]
def flg4 : List Str := ["", "u", "s", "us"]
def rel3 : List Str := ["same", "below", "under"]
def okN (w : Nat) (x : Int) : Bool := decide (x = -3) || decide (x = -2) || (decide (0 ≤ x) && decide (x < 2 ^ w))
def okW (h : Str) (w : Nat) : Bool := (flg4.all fun f => (List.range (2 ^ w)).all fun a => (List.range (2 ^ w)).all fun b =>
  if !decide (h ∈ fl2) && !decide (f = "") || decide (h = "twice") && !decide (a = b) || decide (h = "not") && !decide (a = b) then true else decide (reckP h f w a b = reckL h f w a b) && okN w (reckP h f w a b))
def okR (r : Str) (w : Nat) : Bool := (List.range (2 ^ w)).all fun a => (List.range (2 ^ w)).all fun b => holdsP r a b w == tellsL r a b w
theorem okW_sum : okW "sum" 1 && okW "sum" 2 && okW "sum" 3 && okW "sum" 4 = true := by decide +kernel
theorem okW_less : okW "less" 1 && okW "less" 2 && okW "less" 3 && okW "less" 4 = true := by decide +kernel
theorem okW_twice : okW "twice" 1 && okW "twice" 2 && okW "twice" 3 && okW "twice" 4 = true := by decide +kernel
theorem okW_and : okW "and" 1 && okW "and" 2 && okW "and" 3 && okW "and" 4 = true := by decide +kernel
theorem okW_or : okW "or" 1 && okW "or" 2 && okW "or" 3 && okW "or" 4 = true := by decide +kernel
theorem okW_xor : okW "xor" 1 && okW "xor" 2 && okW "xor" 3 && okW "xor" 4 = true := by decide +kernel
theorem okW_not : okW "not" 1 && okW "not" 2 && okW "not" 3 && okW "not" 4 = true := by decide +kernel
theorem okW_times : okW "times" 1 && okW "times" 2 && okW "times" 3 && okW "times" 4 = true := by decide +kernel
theorem okW_quot : okW "quot" 1 && okW "quot" 2 && okW "quot" 3 && okW "quot" 4 = true := by decide +kernel
theorem okW_rest : okW "rest" 1 && okW "rest" 2 && okW "rest" 3 && okW "rest" 4 = true := by decide +kernel
theorem okW_left : okW "left" 1 && okW "left" 2 && okW "left" 3 && okW "left" 4 = true := by decide +kernel
theorem okW_right : okW "right" 1 && okW "right" 2 && okW "right" 3 && okW "right" 4 = true := by decide +kernel
theorem okR_all : (rel3.all fun r => okR r 1 && okR r 2 && okR r 3 && okR r 4) = true := by decide +kernel
theorem okW_all {h : Str} {w : Nat} (hh : h ∈ wrds) (h1 : 1 ≤ w) (h4 : w ≤ 4) : okW h w = true := by
  have of : ∀ h : Str, (okW h 1 && okW h 2 && okW h 3 && okW h 4) = true → okW h w = true := fun h e => by
    simp only [Bool.and_eq_true] at e
    match w, h1, h4 with
    | 1, _, _ => exact e.1.1.1
    | 2, _, _ => exact e.1.1.2
    | 3, _, _ => exact e.1.2
    | 4, _, _ => exact e.2
  simp only [wrds, List.mem_cons, List.not_mem_nil, or_false] at hh
  rcases hh with rfl | rfl | rfl | rfl | rfl | rfl | rfl | rfl | rfl | rfl | rfl | rfl
  · exact of _ okW_sum
  · exact of _ okW_less
  · exact of _ okW_twice
  · exact of _ okW_and
  · exact of _ okW_or
  · exact of _ okW_xor
  · exact of _ okW_not
  · exact of _ okW_times
  · exact of _ okW_quot
  · exact of _ okW_rest
  · exact of _ okW_left
  · exact of _ okW_right
/-- sound: BAD, or a number of the width -/
def Snd (w : Nat) (x : Int) : Prop := x = -2 ∨ (0 ≤ x ∧ x < 2 ^ w)
def OkO (w : Nat) (x : Int) : Prop := x = -3 ∨ Snd w x
theorem okO_iff {w : Nat} {x : Int} (h : okN w x = true) : OkO w x := by
  unfold okN at h
  simp only [Bool.or_eq_true, Bool.and_eq_true, decide_eq_true_eq] at h
  unfold OkO Snd
  omega
theorem nat_of {w : Nat} {x : Int} (h0 : 0 ≤ x) (h1 : x < 2 ^ w) : ∃ n : Nat, n ∈ List.range (2 ^ w) ∧ x = (n : Int) := by
  refine ⟨x.toNat, List.mem_range.mpr ?_, by omega⟩
  have : ((2 ^ w : Nat) : Int) = 2 ^ w := by exact_mod_cast rfl
  omega
theorem reck_same {h f : Str} {w : Nat} {a b : Int} (hh : h ∈ wrds) (hf : f ∈ flg4) (hn : h ∈ fl2 ∨ f = "") (h1 : 1 ≤ w) (h4 : w ≤ 4) (ha : Snd w a) (hb : Snd w b) (h2 : h = "twice" ∨ h = "not" → a = b) :
    reckP h f w a b = reckL h f w a b ∧ OkO w (reckP h f w a b) := by
  by_cases c1 : h ∈ qr2 ∧ (b = 0 ∨ b = -2)
  · rw [reckP, reckL, if_pos c1, if_pos c1]
    exact ⟨rfl, .inl rfl⟩
  by_cases c2 : a = -2 ∨ b = -2
  · rw [reckP, reckL, if_neg c1, if_neg c1, if_pos c2, if_pos c2]
    exact ⟨rfl, .inr (.inl rfl)⟩
  obtain ⟨a0, a1⟩ := ha.resolve_left fun e => c2 (.inl e)
  obtain ⟨b0, b1⟩ := hb.resolve_left fun e => c2 (.inr e)
  obtain ⟨na, ma, rfl⟩ := nat_of a0 a1
  obtain ⟨nb, mb, rfl⟩ := nat_of b0 b1
  have k := okW_all hh h1 h4
  unfold okW at k
  have k := List.all_eq_true.mp (List.all_eq_true.mp (List.all_eq_true.mp k f hf) na ma) nb mb
  rw [if_neg] at k
  · simp only [Bool.and_eq_true, decide_eq_true_eq] at k
    exact ⟨k.1, okO_iff k.2⟩
  · simp only [Bool.or_eq_true, Bool.and_eq_true, Bool.not_eq_true', decide_eq_true_eq, decide_eq_false_iff_not]
    rintro ((⟨z1, z2⟩ | ⟨z1, z2⟩) | ⟨z1, z2⟩)
    · exact hn.elim (fun m => absurd m z1) fun e => z2 e
    · exact z2 (by have := h2 (.inl z1); omega)
    · exact z2 (by have := h2 (.inr z1); omega)
theorem holds_same {r : Str} {w : Nat} {a b : Int} (hr : r ∈ rel3) (h1 : 1 ≤ w) (h4 : w ≤ 4) (a0 : 0 ≤ a) (a1 : a < 2 ^ w) (b0 : 0 ≤ b) (b1 : b < 2 ^ w) : holdsP r a b w = tellsL r a b w := by
  obtain ⟨na, ma, rfl⟩ := nat_of a0 a1
  obtain ⟨nb, mb, rfl⟩ := nat_of b0 b1
  have k := List.all_eq_true.mp okR_all r hr
  simp only [Bool.and_eq_true] at k
  have k : okR r w = true := by
    match w, h1, h4 with
    | 1, _, _ => exact k.1.1.1
    | 2, _, _ => exact k.1.1.2
    | 3, _, _ => exact k.1.2
    | 4, _, _ => exact k.2
  unfold okR at k
  exact eq_of_beq (List.all_eq_true.mp (List.all_eq_true.mp k na ma) nb mb)
/-! ## rows -/
def crossR (F : List (List Int)) (ss : List Int) : List (List Int) := F.flatMap fun o => ss.map fun t => o ++ [t]
def cross (rows : List (List Int)) : List (List Int) := rows.foldl crossR [[]]
theorem cross_end (rows : List (List Int)) (r : List Int) : cross (rows ++ [r]) = crossR (cross rows) r := by
  unfold cross
  rw [List.foldl_append]
  rfl
theorem crossR_len {n : Nat} (F : List (List Int)) {ss : List Int} (h : ss.length ≤ n) : (crossR F ss).length ≤ F.length * n := by
  unfold crossR
  induction F with
  | nil => simp
  | cons o F ih =>
    rw [List.flatMap_cons, List.length_append, List.length_map, List.length_cons, Nat.succ_mul]
    omega
theorem mem_crossR {F : List (List Int)} {ss : List Int} {r : List Int} : r ∈ crossR F ss ↔ ∃ o ∈ F, ∃ t ∈ ss, r = o ++ [t] := by
  unfold crossR
  rw [List.mem_flatMap]
  refine ⟨fun ⟨o, ho, h⟩ => ?_, fun ⟨o, ho, t, ht, e⟩ => ⟨o, ho, List.mem_map.mpr ⟨t, ht, e.symm⟩⟩⟩
  obtain ⟨t, ht, e⟩ := List.mem_map.mp h
  exact ⟨o, ho, t, ht, e.symm⟩
theorem mem_c1 {A : List Int} {r : List Int} : r ∈ cross [A] ↔ ∃ a ∈ A, r = [a] := by
  rw [show cross [A] = crossR [[]] A from rfl, mem_crossR]
  simp
theorem mem_c2 {A B : List Int} {r : List Int} : r ∈ cross [A, B] ↔ ∃ a ∈ A, ∃ b ∈ B, r = [a, b] := by
  rw [show cross [A, B] = crossR (cross [A]) B from rfl, mem_crossR]
  refine ⟨fun ⟨o, ho, t, ht, e⟩ => ?_, fun ⟨a, ha, b, hb, e⟩ => ⟨[a], mem_c1.mpr ⟨a, ha, rfl⟩, b, hb, e⟩⟩
  obtain ⟨a, ha, rfl⟩ := mem_c1.mp ho
  exact ⟨a, ha, t, ht, e⟩
theorem mem_c4 {A B C D : List Int} {r : List Int} : r ∈ cross [A, B, C, D] ↔ ∃ a ∈ A, ∃ b ∈ B, ∃ c ∈ C, ∃ d ∈ D, r = [a, b, c, d] := by
  rw [show cross [A, B, C, D] = crossR (crossR (cross [A, B]) C) D from rfl, mem_crossR]
  refine ⟨fun ⟨o, ho, t, ht, e⟩ => ?_, fun ⟨a, ha, b, hb, c, hc, d, hd, e⟩ => ⟨[a, b, c], mem_crossR.mpr ⟨[a, b], mem_c2.mpr ⟨a, ha, b, hb, rfl⟩, c, hc, rfl⟩, d, hd, e⟩⟩
  obtain ⟨o2, ho2, c, hc, rfl⟩ := mem_crossR.mp ho
  obtain ⟨a, ha, b, hb, rfl⟩ := mem_c2.mp ho2
  exact ⟨a, ha, b, hb, c, hc, t, ht, e⟩
/-! ## a row of outcomes, rising, each once -/
def univ : List Int := (List.range 19).map fun (i : Nat) => (i : Int) - 3
def ordI (l : List Int) : List Int := univ.filter fun x => decide (x ∈ l)
theorem mem_univ {x : Int} : x ∈ univ ↔ -3 ≤ x ∧ x < 16 := by
  unfold univ
  rw [List.mem_map]
  refine ⟨fun ⟨i, hi, e⟩ => by have := List.mem_range.mp hi; omega, fun h => ⟨(x + 3).toNat, List.mem_range.mpr (by omega), by omega⟩⟩
theorem univ_up : univ.Pairwise (· < ·) := by decide +kernel
theorem ord_up (l : List Int) : (ordI l).Pairwise (· < ·) := univ_up.filter _
theorem ord_len (l : List Int) : (ordI l).length ≤ 19 := by
  have := List.length_filter_le (fun x => decide (x ∈ l)) univ
  have e : univ.length = 19 := by decide +kernel
  unfold ordI
  omega
theorem mem_ord {l : List Int} (h : ∀ x ∈ l, -3 ≤ x ∧ x < 16) {x : Int} : x ∈ ordI l ↔ x ∈ l := by
  unfold ordI
  rw [List.mem_filter, decide_eq_true_eq]
  exact ⟨fun k => k.2, fun k => ⟨mem_univ.mpr (h x k), k⟩⟩
theorem up_unique : ∀ {l m : List Int}, l.Pairwise (· < ·) → m.Pairwise (· < ·) → (∀ x, x ∈ l ↔ x ∈ m) → l = m
  | [], [], _, _, _ => rfl
  | [], y :: m, _, _, h => absurd ((h y).mpr List.mem_cons_self) List.not_mem_nil
  | x :: l, [], _, _, h => absurd ((h x).mp List.mem_cons_self) List.not_mem_nil
  | x :: l, y :: m, h1, h2, h => by
    obtain ⟨a1, a2⟩ := List.pairwise_cons.mp h1
    obtain ⟨b1, b2⟩ := List.pairwise_cons.mp h2
    have exy : x = y := by
      rcases List.mem_cons.mp ((h x).mp List.mem_cons_self) with e | m1
      · exact e
      · rcases List.mem_cons.mp ((h y).mpr List.mem_cons_self) with e | m2
        · exact e.symm
        · have := a1 y m2
          have := b1 x m1
          omega
    subst exy
    rw [up_unique a2 b2 fun z => ?_]
    refine ⟨fun k => ?_, fun k => ?_⟩
    · rcases List.mem_cons.mp ((h z).mp (List.mem_cons_of_mem _ k)) with e | k'
      · have := a1 z k; omega
      · exact k'
    · rcases List.mem_cons.mp ((h z).mpr (List.mem_cons_of_mem _ k)) with e | k'
      · have := b1 z k; omega
      · exact k'
theorem ord_same {l m : List Int} (h : ∀ x, x ∈ l ↔ x ∈ m) : ordI l = ordI m := by
  unfold ordI
  exact List.filter_congr fun x _ => by rw [decide_eq_decide]; exact h x
theorem ord_of {ys l : List Int} (hy : ys.Pairwise (· < ·)) (h : ∀ x, x ∈ ys ↔ x ∈ l) (r : ∀ x ∈ l, -3 ≤ x ∧ x < 16) : ys = ordI l :=
  up_unique hy (ord_up l) fun x => (h x).trans (mem_ord r).symm
theorem okO_in {w : Nat} (h4 : w ≤ 4) {x : Int} (h : OkO w x) : -3 ≤ x ∧ x < 16 := by
  have : (2 : Int) ^ w ≤ 16 := by
    match w, h4 with
    | 0, _ => decide
    | 1, _ => decide
    | 2, _ => decide
    | 3, _ => decide
    | 4, _ => decide
  unfold OkO Snd at h
  omega
/-! ## parts put together: as the program does, and as the law does -/
def numsI (w : Nat) : List Int := (List.range (2 ^ w)).map fun (i : Nat) => (i : Int)
theorem mem_nums {w : Nat} {x : Int} : x ∈ numsI w ↔ 0 ≤ x ∧ x < 2 ^ w := by
  unfold numsI
  rw [List.mem_map]
  refine ⟨fun ⟨i, hi, e⟩ => ?_, fun h => ?_⟩
  · have := List.mem_range.mp hi
    have e2 : ((2 ^ w : Nat) : Int) = 2 ^ w := by exact_mod_cast rfl
    omega
  · obtain ⟨n, hn, e⟩ := nat_of h.1 h.2
    exact ⟨n, hn, e.symm⟩
def sndOf (l : List Int) : List Int := l.filter fun x => !decide (x = -3)
theorem mem_snd {l : List Int} {x : Int} : x ∈ sndOf l ↔ x ∈ l ∧ x ≠ -3 := by
  unfold sndOf
  rw [List.mem_filter]
  simp
def faultsP (parts : List (List Int)) : List Int := (parts.filter fun p => decide ((-3 : Int) ∈ p)).map fun _ => -3
theorem mem_faults {parts : List (List Int)} {x : Int} : x ∈ faultsP parts ↔ x = -3 ∧ ∃ p ∈ parts, (-3 : Int) ∈ p := by
  unfold faultsP
  rw [List.mem_map]
  refine ⟨fun ⟨p, hp, e⟩ => ?_, fun ⟨e, p, hp, h⟩ => ⟨p, List.mem_filter.mpr ⟨hp, decide_eq_true h⟩, e.symm⟩⟩
  rw [List.mem_filter, decide_eq_true_eq] at hp
  exact ⟨e.symm, p, hp.1, hp.2⟩
def verdP (r : Str) (A B : List Int) (w : Nat) : List Bool := A.flatMap fun a => (B.filter fun b => !(decide (a = -2) || decide (b = -2))).map fun b => holdsP r a b w
theorem mem_verd {r : Str} {A B : List Int} {w : Nat} {v : Bool} : v ∈ verdP r A B w ↔ ∃ a ∈ A, ∃ b ∈ B, a ≠ -2 ∧ b ≠ -2 ∧ holdsP r a b w = v := by
  unfold verdP
  rw [List.mem_flatMap]
  refine ⟨fun ⟨a, ha, h⟩ => ?_, fun ⟨a, ha, b, hb, h1, h2, e⟩ => ⟨a, ha, List.mem_map.mpr ⟨b, List.mem_filter.mpr ⟨hb, by simp [h1, h2]⟩, e⟩⟩⟩
  obtain ⟨b, hb, e⟩ := List.mem_map.mp h
  obtain ⟨hb, c⟩ := List.mem_filter.mp hb
  simp only [Bool.not_eq_true', Bool.or_eq_false_iff, decide_eq_false_iff_not] at c
  exact ⟨a, ha, b, hb, c.1, c.2, e⟩
def badsP (parts : List (List Int)) : List Int := (parts.filter fun p => decide ((-2 : Int) ∈ p)).map fun _ => -2
theorem mem_bads {parts : List (List Int)} {x : Int} : x ∈ badsP parts ↔ x = -2 ∧ ∃ p ∈ parts, (-2 : Int) ∈ p := by
  unfold badsP
  rw [List.mem_map]
  refine ⟨fun ⟨p, hp, e⟩ => ?_, fun ⟨e, p, hp, h⟩ => ⟨p, List.mem_filter.mpr ⟨hp, decide_eq_true h⟩, e.symm⟩⟩
  rw [List.mem_filter, decide_eq_true_eq] at hp
  exact ⟨e.symm, p, hp.1, hp.2⟩
def chosenP (r : Str) (A B C D : List Int) (w : Nat) : List Int :=
  badsP [A, B] ++ (if true ∈ verdP r A B w then C else []) ++ (if false ∈ verdP r A B w then D else [])
def frozenP (A : List Int) (w : Nat) : List Int := if (-2 : Int) ∈ A then numsI w else A
/-- h: the head, f: its flags, r: its relation -/
def soundP (h f r : Str) (w : Nat) (parts : List (List Int)) : List Int :=
  if h = "choice" then chosenP r (parts.getD 0 []) (parts.getD 1 []) (parts.getD 2 []) (parts.getD 3 []) w
  else if h = "froze" then frozenP (parts.getD 0 []) w
  else (cross parts).map fun o => reckP h f w (o.headD 0) (o.getLastD 0)
def combP (h f r : Str) (w : Nat) (parts : List (List Int)) : List Int :=
  faultsP parts ++ (if ([] : List Int) ∈ parts.map sndOf then [] else soundP h f r w (parts.map sndOf))
def rowL (h f r : Str) (w : Nat) (o : List Int) : List Int :=
  if h = "choice" then (if (-2 : Int) ∈ o.take 2 then [-2] else [if tellsL r (o.getD 0 0) (o.getD 1 0) w = true then o.getD 2 0 else o.getD 3 0])
  else if h = "froze" then (if o.headD 0 = -2 then numsI w else [o.headD 0])
  else [reckL h f w (o.headD 0) (o.getLastD 0)]
def outsL (h f r : Str) (w : Nat) (parts : List (List Int)) : List Int := (cross parts).flatMap fun o => if (-3 : Int) ∈ o then [-3] else rowL h f r w o
/-- parts that fit the head -/
structure Fits (h f r : Str) (w : Nat) (parts : List (List Int)) : Prop where
  lo : 1 ≤ w
  hi : w ≤ 4
  ne : ∀ p ∈ parts, p ≠ []
  ok : ∀ p ∈ parts, ∀ x ∈ p, OkO w x
  kind : (h = "choice" ∧ r ∈ rel3 ∧ parts.length = 4) ∨ (h = "froze" ∧ parts.length = 1) ∨ (h ∈ wrds ∧ f ∈ flg4 ∧ (h ∈ fl2 ∨ f = "") ∧ (parts.length = 2 ∨ (parts.length = 1 ∧ (h = "twice" ∨ h = "not"))) ∧ (h = "twice" ∨ h = "not" → parts.length = 1))
theorem ne_mem {l : List Int} (h : l ≠ []) : ∃ x, x ∈ l := by
  cases l with
  | nil => exact absurd rfl h
  | cons x l => exact ⟨x, List.mem_cons_self⟩
theorem mem_outs {h f r : Str} {w : Nat} {parts : List (List Int)} {x : Int} : x ∈ outsL h f r w parts ↔ ∃ o ∈ cross parts, (if (-3 : Int) ∈ o then x = -3 else x ∈ rowL h f r w o) := by
  unfold outsL
  rw [List.mem_flatMap]
  refine ⟨fun ⟨o, ho, h⟩ => ⟨o, ho, ?_⟩, fun ⟨o, ho, h⟩ => ⟨o, ho, ?_⟩⟩
  · split
    · next c => rw [if_pos c] at h; simpa using h
    · next c => rw [if_neg c] at h; exact h
  · split
    · next c => rw [if_pos c] at h; simpa using h
    · next c => rw [if_neg c] at h; exact h
theorem snd_ok {w : Nat} {l : List Int} (h : ∀ x ∈ l, OkO w x) : ∀ x ∈ sndOf l, Snd w x := fun x hx => by
  obtain ⟨m, n⟩ := mem_snd.mp hx
  exact (h x m).resolve_left n
end Vf
namespace Vf
open PySem L2 PyProof.Rows PySem.Spec
/-! ## the program's putting together is the law's -/
theorem wrds_not {h : Str} (m : h ∈ wrds) : ¬ h = "choice" ∧ ¬ h = "froze" := (show ∀ h ∈ wrds, ¬ h = "choice" ∧ ¬ h = "froze" by decide +kernel) h m
theorem len1 {α : Type} {l : List α} (h : l.length = 1) : ∃ a, l = [a] := by
  match l, h with
  | [a], _ => exact ⟨a, rfl⟩
theorem len2 {α : Type} {l : List α} (h : l.length = 2) : ∃ a b, l = [a, b] := by
  match l, h with
  | [a, b], _ => exact ⟨a, b, rfl⟩
theorem len4 {α : Type} {l : List α} (h : l.length = 4) : ∃ a b c d, l = [a, b, c, d] := by
  match l, h with
  | [a, b, c, d], _ => exact ⟨a, b, c, d, rfl⟩
theorem comb_same {h f r : Str} {w : Nat} {parts : List (List Int)} (F : Fits h f r w parts) (x : Int) : x ∈ combP h f r w parts ↔ x ∈ outsL h f r w parts := by
  unfold combP
  rw [List.mem_append, mem_faults, mem_outs]
  rcases F.kind with ⟨rfl, hr, hl⟩ | ⟨rfl, hl⟩ | ⟨hh, hf, hn, hl, h1⟩
  · obtain ⟨A, B, C, D, rfl⟩ := len4 hl
    have oA := F.ok A (by simp)
    have oB := F.ok B (by simp)
    obtain ⟨a0, ma⟩ := ne_mem (F.ne A (by simp))
    obtain ⟨b0, mb⟩ := ne_mem (F.ne B (by simp))
    obtain ⟨c0, mc⟩ := ne_mem (F.ne C (by simp))
    obtain ⟨d0, md⟩ := ne_mem (F.ne D (by simp))
    have hold : ∀ a ∈ sndOf A, ∀ b ∈ sndOf B, a ≠ -2 → b ≠ -2 → holdsP r a b w = tellsL r a b w := fun a ha b hb na nb => by
      obtain ⟨a1, a2⟩ := (snd_ok oA a ha).resolve_left na
      obtain ⟨b1, b2⟩ := (snd_ok oB b hb).resolve_left nb
      exact holds_same hr F.lo F.hi a1 a2 b1 b2
    have snd : ∀ {p : List Int} {y : Int}, y ∈ p → y = -3 ∨ y ∈ sndOf p := fun {p y} m => by
      by_cases e : y = -3
      · exact .inl e
      · exact .inr (mem_snd.mpr ⟨m, e⟩)
    constructor
    · rintro (⟨rfl, p, hp, h3⟩ | hx)
      · simp only [List.mem_cons, List.not_mem_nil, or_false] at hp
        rcases hp with rfl | rfl | rfl | rfl
        · exact ⟨_, mem_c4.mpr ⟨-3, h3, b0, mb, c0, mc, d0, md, rfl⟩, by rw [if_pos (by simp)]⟩
        · exact ⟨_, mem_c4.mpr ⟨a0, ma, -3, h3, c0, mc, d0, md, rfl⟩, by rw [if_pos (by simp)]⟩
        · exact ⟨_, mem_c4.mpr ⟨a0, ma, b0, mb, -3, h3, d0, md, rfl⟩, by rw [if_pos (by simp)]⟩
        · exact ⟨_, mem_c4.mpr ⟨a0, ma, b0, mb, c0, mc, -3, h3, rfl⟩, by rw [if_pos (by simp)]⟩
      · split at hx
        · exact absurd hx List.not_mem_nil
        next hne =>
        simp only [List.map_cons, List.map_nil, List.mem_cons, List.not_mem_nil, or_false, not_or] at hne
        obtain ⟨a1, na1⟩ := ne_mem (fun z => hne.1 z.symm)
        obtain ⟨b1, nb1⟩ := ne_mem (fun z => hne.2.1 z.symm)
        obtain ⟨c1, nc1⟩ := ne_mem (fun z => hne.2.2.1 z.symm)
        obtain ⟨d1, nd1⟩ := ne_mem (fun z => hne.2.2.2 z.symm)
        have row : ∀ a b c d, a ∈ sndOf A → b ∈ sndOf B → c ∈ sndOf C → d ∈ sndOf D → (x ∈ rowL "choice" f r w [a, b, c, d]) → ∃ o ∈ cross [A, B, C, D], (if (-3 : Int) ∈ o then x = -3 else x ∈ rowL "choice" f r w o) := fun a b c d ha hb hc hd hx => by
          obtain ⟨a2, a3⟩ := mem_snd.mp ha
          obtain ⟨b2, b3⟩ := mem_snd.mp hb
          obtain ⟨c2, c3⟩ := mem_snd.mp hc
          obtain ⟨d2, d3⟩ := mem_snd.mp hd
          refine ⟨_, mem_c4.mpr ⟨a, a2, b, b2, c, c2, d, d2, rfl⟩, ?_⟩
          rw [if_neg (by simp only [List.mem_cons, List.not_mem_nil, or_false, not_or]; exact ⟨fun z => a3 z.symm, fun z => b3 z.symm, fun z => c3 z.symm, fun z => d3 z.symm⟩)]
          exact hx
        rw [soundP, if_pos rfl] at hx
        show ∃ o ∈ cross [A, B, C, D], _
        have hx : x ∈ chosenP r (sndOf A) (sndOf B) (sndOf C) (sndOf D) w := hx
        unfold chosenP at hx
        rw [List.mem_append, List.mem_append, mem_bads] at hx
        rcases hx with (⟨rfl, p, hp, h2⟩ | hx) | hx
        · simp only [List.mem_cons, List.not_mem_nil, or_false] at hp
          rcases hp with rfl | rfl
          · exact row (-2) b1 c1 d1 h2 nb1 nc1 nd1 (by rw [rowL, if_pos rfl, if_pos (by simp)]; simp)
          · exact row a1 (-2) c1 d1 na1 h2 nc1 nd1 (by rw [rowL, if_pos rfl, if_pos (by simp)]; simp)
        · split at hx
          · next v =>
            obtain ⟨a, ha, b, hb, a2, b2, e⟩ := mem_verd.mp v
            rw [hold a ha b hb a2 b2] at e
            refine row a b x d1 ha hb hx nd1 ?_
            rw [rowL, if_pos rfl, if_neg (by simp; exact ⟨fun z => a2 z.symm, fun z => b2 z.symm⟩)]
            show x ∈ [if tellsL r a b w = true then x else d1]
            rw [if_pos e]
            exact List.mem_singleton.mpr rfl
          · exact absurd hx List.not_mem_nil
        · split at hx
          · next v =>
            obtain ⟨a, ha, b, hb, a2, b2, e⟩ := mem_verd.mp v
            rw [hold a ha b hb a2 b2] at e
            refine row a b c1 x ha hb nc1 hx ?_
            rw [rowL, if_pos rfl, if_neg (by simp; exact ⟨fun z => a2 z.symm, fun z => b2 z.symm⟩)]
            show x ∈ [if tellsL r a b w = true then c1 else x]
            rw [if_neg (by rw [e]; exact Bool.false_ne_true)]
            exact List.mem_singleton.mpr rfl
          · exact absurd hx List.not_mem_nil
    · rintro ⟨o, ho, hx⟩
      obtain ⟨a, ha, b, hb, c, hc, d, hd, rfl⟩ := mem_c4.mp ho
      by_cases h3 : (-3 : Int) ∈ [a, b, c, d]
      · rw [if_pos h3] at hx
        subst hx
        refine .inl ⟨rfl, ?_⟩
        simp only [List.mem_cons, List.not_mem_nil, or_false] at h3
        rcases h3 with rfl | rfl | rfl | rfl
        · exact ⟨A, by simp, ha⟩
        · exact ⟨B, by simp, hb⟩
        · exact ⟨C, by simp, hc⟩
        · exact ⟨D, by simp, hd⟩
      · rw [if_neg h3] at hx
        simp only [List.mem_cons, List.not_mem_nil, or_false, not_or] at h3
        have sa : a ∈ sndOf A := mem_snd.mpr ⟨ha, fun z => h3.1 z.symm⟩
        have sb : b ∈ sndOf B := mem_snd.mpr ⟨hb, fun z => h3.2.1 z.symm⟩
        have sc : c ∈ sndOf C := mem_snd.mpr ⟨hc, fun z => h3.2.2.1 z.symm⟩
        have sd : d ∈ sndOf D := mem_snd.mpr ⟨hd, fun z => h3.2.2.2 z.symm⟩
        refine .inr ?_
        rw [if_neg (by
          simp only [List.map_cons, List.map_nil, List.mem_cons, List.not_mem_nil, or_false, not_or]
          exact ⟨fun z => by rw [← z] at sa; exact List.not_mem_nil sa, fun z => by rw [← z] at sb; exact List.not_mem_nil sb, fun z => by rw [← z] at sc; exact List.not_mem_nil sc, fun z => by rw [← z] at sd; exact List.not_mem_nil sd⟩), soundP, if_pos rfl]
        show x ∈ chosenP r (sndOf A) (sndOf B) (sndOf C) (sndOf D) w
        unfold chosenP
        rw [List.mem_append, List.mem_append, mem_bads]
        rw [rowL, if_pos rfl] at hx
        by_cases h2 : a = -2 ∨ b = -2
        · rw [if_pos (by show (-2 : Int) ∈ [a, b]; simp only [List.mem_cons, List.not_mem_nil, or_false]; exact h2.imp Eq.symm Eq.symm)] at hx
          refine .inl (.inl ⟨by simpa using hx, ?_⟩)
          rcases h2 with rfl | rfl
          · exact ⟨_, by simp, sa⟩
          · exact ⟨_, by simp, sb⟩
        · rw [if_neg (by show ¬ (-2 : Int) ∈ [a, b]; simp only [List.mem_cons, List.not_mem_nil, or_false]; exact fun z => h2 (z.imp Eq.symm Eq.symm))] at hx
          have hx : x = if tellsL r a b w = true then c else d := by simpa using hx
          have n1 : a ≠ -2 := fun z => h2 (.inl z)
          have n2 : b ≠ -2 := fun z => h2 (.inr z)
          have e := hold a sa b sb n1 n2
          by_cases t : tellsL r a b w = true
          · rw [if_pos t] at hx
            subst hx
            exact .inl (.inr (by rw [if_pos (mem_verd.mpr ⟨a, sa, b, sb, n1, n2, e.trans t⟩)]; exact sc))
          · rw [if_neg t] at hx
            subst hx
            exact .inr (by rw [if_pos (mem_verd.mpr ⟨a, sa, b, sb, n1, n2, e.trans (by simpa using t)⟩)]; exact sd)
  · obtain ⟨A, rfl⟩ := len1 hl
    have oA := F.ok A (by simp)
    obtain ⟨a0, ma⟩ := ne_mem (F.ne A (by simp))
    constructor
    · rintro (⟨rfl, p, hp, h3⟩ | hx)
      · rw [List.mem_singleton] at hp
        subst hp
        exact ⟨_, mem_c1.mpr ⟨-3, h3, rfl⟩, by rw [if_pos (by simp)]⟩
      · split at hx
        · exact absurd hx List.not_mem_nil
        rw [soundP, if_neg (by decide +kernel), if_pos rfl] at hx
        have hx : x ∈ frozenP (sndOf A) w := hx
        unfold frozenP at hx
        split at hx
        · next h2 =>
          obtain ⟨m2, _⟩ := mem_snd.mp h2
          refine ⟨_, mem_c1.mpr ⟨-2, m2, rfl⟩, ?_⟩
          rw [if_neg (by simp), rowL, if_neg (by decide +kernel), if_pos rfl]
          show x ∈ if (-2 : Int) = -2 then numsI w else _
          rw [if_pos rfl]
          exact hx
        · obtain ⟨m2, n3⟩ := mem_snd.mp hx
          next h2 =>
          refine ⟨_, mem_c1.mpr ⟨x, m2, rfl⟩, ?_⟩
          rw [if_neg (by simpa using fun z : (-3 : Int) = x => n3 z.symm), rowL, if_neg (by decide +kernel), if_pos rfl]
          show x ∈ if x = -2 then numsI w else [x]
          rw [if_neg (fun z : x = -2 => h2 (by rw [← z]; exact hx))]
          exact List.mem_singleton.mpr rfl
    · rintro ⟨o, ho, hx⟩
      obtain ⟨a, ha, rfl⟩ := mem_c1.mp ho
      by_cases h3 : a = -3
      · subst h3
        rw [if_pos (by simp)] at hx
        exact .inl ⟨hx, A, by simp, ha⟩
      · rw [if_neg (by simpa using fun z : (-3 : Int) = a => h3 z.symm), rowL, if_neg (by decide +kernel), if_pos rfl] at hx
        have sa : a ∈ sndOf A := mem_snd.mpr ⟨ha, h3⟩
        refine .inr ?_
        rw [if_neg (by simp; exact fun z => by rw [z] at sa; exact List.not_mem_nil sa), soundP, if_neg (by decide +kernel), if_pos rfl]
        show x ∈ frozenP (sndOf A) w
        unfold frozenP
        by_cases h2 : (-2 : Int) ∈ sndOf A
        · rw [if_pos h2, mem_nums]
          split at hx
          · exact mem_nums.mp hx
          · next n2 =>
            have e : x = a := by simpa using hx
            subst e
            exact (snd_ok oA x sa).resolve_left n2
        · rw [if_neg h2]
          split at hx
          · next e =>
            have e : a = -2 := e
            rw [e] at sa
            exact absurd sa h2
          · have e : x = a := by simpa using hx
            rw [e]
            exact sa
  · obtain ⟨nc, nf⟩ := wrds_not hh
    have main : ∀ o ∈ cross (parts.map sndOf), reckP h f w (o.headD 0) (o.getLastD 0) = reckL h f w (o.headD 0) (o.getLastD 0) := by
      intro o ho
      rcases hl with hl | ⟨hl, h2⟩
      · obtain ⟨A, B, rfl⟩ := len2 hl
        obtain ⟨a, ha, b, hb, rfl⟩ := mem_c2.mp ho
        exact (reck_same hh hf hn F.lo F.hi (snd_ok (F.ok A (by simp)) a ha) (snd_ok (F.ok B (by simp)) b hb) fun z => by simpa using h1 z).1
      · obtain ⟨A, rfl⟩ := len1 hl
        obtain ⟨a, ha, rfl⟩ := mem_c1.mp ho
        exact (reck_same hh hf hn F.lo F.hi (snd_ok (F.ok A (by simp)) a ha) (snd_ok (F.ok A (by simp)) a ha) fun z => rfl).1
    have both : ∀ o, (o ∈ cross (parts.map sndOf) ↔ o ∈ cross parts ∧ (-3 : Int) ∉ o) := by
      intro o
      rcases hl with hl | ⟨hl, _⟩
      · obtain ⟨A, B, rfl⟩ := len2 hl
        rw [List.map_cons, List.map_cons, List.map_nil, mem_c2, mem_c2]
        refine ⟨fun ⟨a, ha, b, hb, e⟩ => ?_, fun ⟨⟨a, ha, b, hb, e⟩, n⟩ => ?_⟩
        · obtain ⟨a1, a2⟩ := mem_snd.mp ha
          obtain ⟨b1, b2⟩ := mem_snd.mp hb
          refine ⟨⟨a, a1, b, b1, e⟩, ?_⟩
          rw [e]
          simp only [List.mem_cons, List.not_mem_nil, or_false, not_or]
          exact ⟨fun z => a2 z.symm, fun z => b2 z.symm⟩
        · rw [e] at n
          simp only [List.mem_cons, List.not_mem_nil, or_false, not_or] at n
          exact ⟨a, mem_snd.mpr ⟨ha, fun z => n.1 z.symm⟩, b, mem_snd.mpr ⟨hb, fun z => n.2 z.symm⟩, e⟩
      · obtain ⟨A, rfl⟩ := len1 hl
        rw [List.map_cons, List.map_nil, mem_c1, mem_c1]
        refine ⟨fun ⟨a, ha, e⟩ => ?_, fun ⟨⟨a, ha, e⟩, n⟩ => ?_⟩
        · obtain ⟨a1, a2⟩ := mem_snd.mp ha
          refine ⟨⟨a, a1, e⟩, ?_⟩
          rw [e, List.mem_singleton]
          exact fun z => a2 z.symm
        · rw [e, List.mem_singleton] at n
          exact ⟨a, mem_snd.mpr ⟨ha, fun z => n z.symm⟩, e⟩
    have nil : ([] : List Int) ∈ parts.map sndOf → cross (parts.map sndOf) = [] := by
      intro m
      apply List.eq_nil_iff_forall_not_mem.mpr
      intro o ho
      rcases hl with hl | ⟨hl, _⟩
      · obtain ⟨A, B, rfl⟩ := len2 hl
        obtain ⟨a, ha, b, hb, _⟩ := mem_c2.mp ho
        simp only [List.map_cons, List.map_nil, List.mem_cons, List.not_mem_nil, or_false] at m
        rcases m with m | m
        · rw [← m] at ha; exact List.not_mem_nil ha
        · rw [← m] at hb; exact List.not_mem_nil hb
      · obtain ⟨A, rfl⟩ := len1 hl
        obtain ⟨a, ha, _⟩ := mem_c1.mp ho
        simp only [List.map_cons, List.map_nil, List.mem_cons, List.not_mem_nil, or_false] at m
        rw [← m] at ha; exact List.not_mem_nil ha
    have flt : ∀ p ∈ parts, (-3 : Int) ∈ p → ∃ o ∈ cross parts, (-3 : Int) ∈ o := by
      intro p hp h3
      rcases hl with hl | ⟨hl, _⟩
      · obtain ⟨A, B, rfl⟩ := len2 hl
        obtain ⟨a0, ma⟩ := ne_mem (F.ne A (by simp))
        obtain ⟨b0, mb⟩ := ne_mem (F.ne B (by simp))
        simp only [List.mem_cons, List.not_mem_nil, or_false] at hp
        rcases hp with rfl | rfl
        · exact ⟨_, mem_c2.mpr ⟨-3, h3, b0, mb, rfl⟩, by simp⟩
        · exact ⟨_, mem_c2.mpr ⟨a0, ma, -3, h3, rfl⟩, by simp⟩
      · obtain ⟨A, rfl⟩ := len1 hl
        rw [List.mem_singleton] at hp
        subst hp
        exact ⟨_, mem_c1.mpr ⟨-3, h3, rfl⟩, by simp⟩
    have flt2 : ∀ o ∈ cross parts, (-3 : Int) ∈ o → ∃ p ∈ parts, (-3 : Int) ∈ p := by
      intro o ho h3
      rcases hl with hl | ⟨hl, _⟩
      · obtain ⟨A, B, rfl⟩ := len2 hl
        obtain ⟨a, ha, b, hb, rfl⟩ := mem_c2.mp ho
        simp only [List.mem_cons, List.not_mem_nil, or_false] at h3
        rcases h3 with rfl | rfl
        · exact ⟨A, by simp, ha⟩
        · exact ⟨B, by simp, hb⟩
      · obtain ⟨A, rfl⟩ := len1 hl
        obtain ⟨a, ha, rfl⟩ := mem_c1.mp ho
        rw [List.mem_singleton] at h3
        subst h3
        exact ⟨A, by simp, ha⟩
    constructor
    · rintro (⟨rfl, p, hp, h3⟩ | hx)
      · obtain ⟨o, ho, m⟩ := flt p hp h3
        exact ⟨o, ho, by rw [if_pos m]⟩
      · split at hx
        · exact absurd hx List.not_mem_nil
        rw [soundP, if_neg nc, if_neg nf, List.mem_map] at hx
        obtain ⟨o, ho, e⟩ := hx
        obtain ⟨h2, n3⟩ := (both o).mp ho
        refine ⟨o, h2, ?_⟩
        rw [if_neg n3, rowL, if_neg nc, if_neg nf, ← e, main o ho]
        exact List.mem_singleton.mpr rfl
    · rintro ⟨o, ho, hx⟩
      by_cases h3 : (-3 : Int) ∈ o
      · rw [if_pos h3] at hx
        exact .inl ⟨hx, flt2 o ho h3⟩
      · rw [if_neg h3, rowL, if_neg nc, if_neg nf, List.mem_singleton] at hx
        have hs := (both o).mpr ⟨ho, h3⟩
        refine .inr ?_
        rw [if_neg (fun m => by rw [nil m] at hs; exact List.not_mem_nil hs), soundP, if_neg nc, if_neg nf, List.mem_map]
        exact ⟨o, hs, by rw [main o hs]; exact hx.symm⟩
theorem row_ok {h f r : Str} {w : Nat} {parts : List (List Int)} (F : Fits h f r w parts) {o : List Int} (ho : o ∈ cross parts) (n3 : (-3 : Int) ∉ o) : (rowL h f r w o ≠ []) ∧ ∀ x ∈ rowL h f r w o, OkO w x := by
  have p2 : (0 : Int) < 2 ^ w := Int.pow_pos (by decide)
  rcases F.kind with ⟨rfl, hr, hl⟩ | ⟨rfl, hl⟩ | ⟨hh, hf, hn, hl, h1⟩
  · obtain ⟨A, B, C, D, rfl⟩ := len4 hl
    obtain ⟨a, ha, b, hb, c, hc, d, hd, rfl⟩ := mem_c4.mp ho
    rw [rowL, if_pos rfl]
    split
    · exact ⟨List.cons_ne_nil _ _, fun x hx => by rw [List.mem_singleton] at hx; exact .inr (.inl hx)⟩
    · refine ⟨List.cons_ne_nil _ _, fun x hx => ?_⟩
      rw [List.mem_singleton] at hx
      rw [hx]
      split
      · exact F.ok C (by simp) _ hc
      · exact F.ok D (by simp) _ hd
  · obtain ⟨A, rfl⟩ := len1 hl
    obtain ⟨a, ha, rfl⟩ := mem_c1.mp ho
    rw [rowL, if_neg (by decide +kernel), if_pos rfl]
    split
    · refine ⟨fun z => ?_, fun x hx => .inr (.inr (mem_nums.mp hx))⟩
      have : (0 : Int) ∈ numsI w := mem_nums.mpr ⟨Int.le_refl _, p2⟩
      rw [z] at this
      exact List.not_mem_nil this
    · exact ⟨List.cons_ne_nil _ _, fun x hx => by rw [List.mem_singleton] at hx; rw [hx]; exact F.ok A (by simp) _ ha⟩
  · obtain ⟨nc, nf⟩ := wrds_not hh
    rw [rowL, if_neg nc, if_neg nf]
    refine ⟨List.cons_ne_nil _ _, fun x hx => ?_⟩
    rw [List.mem_singleton] at hx
    rw [hx]
    rcases hl with hl | ⟨hl, h2⟩
    · obtain ⟨A, B, rfl⟩ := len2 hl
      obtain ⟨a, ha, b, hb, rfl⟩ := mem_c2.mp ho
      simp only [List.mem_cons, List.not_mem_nil, or_false, not_or] at n3
      have R := reck_same hh hf hn F.lo F.hi ((F.ok A (by simp) a ha).resolve_left fun z => n3.1 z.symm) ((F.ok B (by simp) b hb).resolve_left fun z => n3.2 z.symm) fun z => by simpa using h1 z
      exact R.1 ▸ R.2
    · obtain ⟨A, rfl⟩ := len1 hl
      obtain ⟨a, ha, rfl⟩ := mem_c1.mp ho
      rw [List.mem_singleton] at n3
      have R := reck_same hh hf hn F.lo F.hi ((F.ok A (by simp) a ha).resolve_left fun z => n3 z.symm) ((F.ok A (by simp) a ha).resolve_left fun z => n3 z.symm) fun _ => rfl
      exact R.1 ▸ R.2
theorem outs_ok {h f r : Str} {w : Nat} {parts : List (List Int)} (F : Fits h f r w parts) : (∃ x, x ∈ outsL h f r w parts) ∧ ∀ x ∈ outsL h f r w parts, OkO w x := by
  constructor
  · obtain ⟨o, ho⟩ : ∃ o, o ∈ cross parts := by
      rcases F.kind with ⟨_, _, hl⟩ | ⟨_, hl⟩ | ⟨_, _, _, hl | ⟨hl, _⟩, _⟩
      · obtain ⟨A, B, C, D, rfl⟩ := len4 hl
        obtain ⟨a0, ma⟩ := ne_mem (F.ne A (by simp))
        obtain ⟨b0, mb⟩ := ne_mem (F.ne B (by simp))
        obtain ⟨c0, mc⟩ := ne_mem (F.ne C (by simp))
        obtain ⟨d0, md⟩ := ne_mem (F.ne D (by simp))
        exact ⟨_, mem_c4.mpr ⟨a0, ma, b0, mb, c0, mc, d0, md, rfl⟩⟩
      · obtain ⟨A, rfl⟩ := len1 hl
        obtain ⟨a0, ma⟩ := ne_mem (F.ne A (by simp))
        exact ⟨_, mem_c1.mpr ⟨a0, ma, rfl⟩⟩
      · obtain ⟨A, B, rfl⟩ := len2 hl
        obtain ⟨a0, ma⟩ := ne_mem (F.ne A (by simp))
        obtain ⟨b0, mb⟩ := ne_mem (F.ne B (by simp))
        exact ⟨_, mem_c2.mpr ⟨a0, ma, b0, mb, rfl⟩⟩
      · obtain ⟨A, rfl⟩ := len1 hl
        obtain ⟨a0, ma⟩ := ne_mem (F.ne A (by simp))
        exact ⟨_, mem_c1.mpr ⟨a0, ma, rfl⟩⟩
    by_cases h3 : (-3 : Int) ∈ o
    · exact ⟨-3, mem_outs.mpr ⟨o, ho, by rw [if_pos h3]⟩⟩
    · obtain ⟨x, hx⟩ := ne_mem (row_ok F ho h3).1
      exact ⟨x, mem_outs.mpr ⟨o, ho, by rw [if_neg h3]; exact hx⟩⟩
  · intro x hx
    obtain ⟨o, ho, h⟩ := mem_outs.mp hx
    split at h
    · exact .inl h
    · next n3 => exact (row_ok F ho n3).2 x h
/-- what a node comes to -/
def nodeO (h f r : Str) (w : Nat) (parts : List (List Int)) : List Int := ordI (combP h f r w parts)
theorem node_law {h f r : Str} {w : Nat} {parts : List (List Int)} (F : Fits h f r w parts) : nodeO h f r w parts = ordI (outsL h f r w parts) := ord_same (comb_same F)
theorem node_ok {h f r : Str} {w : Nat} {parts : List (List Int)} (F : Fits h f r w parts) : nodeO h f r w parts ≠ [] ∧ (∀ x ∈ nodeO h f r w parts, OkO w x) ∧ (nodeO h f r w parts).Pairwise (· < ·) := by
  obtain ⟨⟨x, hx⟩, ok⟩ := outs_ok F
  have rng : ∀ x ∈ outsL h f r w parts, -3 ≤ x ∧ x < 16 := fun x hx => okO_in F.hi (ok x hx)
  refine ⟨fun z => ?_, fun y hy => ?_, ord_up _⟩
  · have := (mem_ord rng).mpr hx
    rw [← node_law F, z] at this
    exact List.not_mem_nil this
  · rw [node_law F] at hy
    exact ok y ((mem_ord rng).mp hy)
end Vf
namespace Vf
open PySem L2 PyProof.Rows PySem.Spec
/-! ## zip of two things, each a list or a tuple -/
inductive Kd | lst | tup
def Sq (k : Kd) (h : Heap) (l : Addr) (xs : Array Value) : Prop := match k with
  | .lst => h.IsList l xs
  | .tup => h.IsTuple l xs
def Cur (k : Kd) (h : Heap) (it l : Addr) (i : Nat) : Prop := match k with
  | .lst => h.IsListIter it l i
  | .tup => h.IsTupleIter it l i
def nmK : Kd → String
  | .lst => "list_iterator"
  | .tup => "tuple_iterator"
theorem Sq.at_ {k : Kd} {h g : Heap} {l : Addr} {xs : Array Value} (x : Sq k h l xs) (e : ∀ o, h.get? l = some o → g.get? l = some o) : Sq k g l xs := by
  cases k with
  | lst => exact Heap.IsList.at x e
  | tup => exact Heap.IsTuple.at x e
theorem Cur.at_ {k : Kd} {h g : Heap} {it l : Addr} {i : Nat} (x : Cur k h it l i) (e : ∀ o, h.get? it = some o → g.get? it = some o) : Cur k g it l i := by
  cases k with
  | lst =>
    obtain ⟨o, a, b⟩ := x
    exact ⟨o, e o a, b⟩
  | tup =>
    obtain ⟨o, a, b⟩ := x
    exact ⟨o, e o a, b⟩
theorem Sq.ex {k : Kd} {h : Heap} {l : Addr} {xs : Array Value} (x : Sq k h l xs) : ∃ o, h.get? l = some o := by
  cases k with
  | lst => exact ⟨_, x.choose_spec.1⟩
  | tup => exact ⟨_, x.choose_spec.1⟩
theorem Cur.ex {k : Kd} {h : Heap} {it l : Addr} {i : Nat} (x : Cur k h it l i) : ∃ o, h.get? it = some o := by
  cases k with
  | lst => exact ⟨_, x.choose_spec.1⟩
  | tup => exact ⟨_, x.choose_spec.1⟩
section
variable {P : Program} {w : World} {A : Around} {E : Value → Shared → Prop} {s : Shared} {k : Kd} {it l : Addr} {i : Nat} {xs : Array Value}
theorem nx_item {v : Value} {Q : Value → Shared → Prop} (c : Cur k s.heap it l i) (q : Sq k s.heap l xs) (e : xs[i]? = some v) (f : ∀ g, Cur k g it l (i + 1) → Heap.SameBut it s.heap g → Q v { s with heap := g }) :
    wpAny (model P w) A (Builtin.SmallTypes.nextOf (.ref it)) Q E s := by
  cases k with
  | lst => exact wpAny_nextOf_list_item c q e f
  | tup => exact RZ.nextOf_tuple_item c q e f
theorem nx_end {Q : Value → Shared → Prop} (hh : A.handled = none) (c : Cur k s.heap it l i) (q : Sq k s.heap l xs) (e : xs[i]? = none)
    (f : ∀ g a, Heap.ExtBut it s.heap g → (∃ o, g.get? a = some o ∧ o.cls = .type "StopIteration") → E (.ref a) { s with heap := g }) : wpAny (model P w) A (Builtin.SmallTypes.nextOf (.ref it)) Q E s := by
  cases k with
  | lst => exact wpAny_nextOf_list_end hh c q e f
  | tup => exact RZ.nextOf_tuple_end hh c q e f
theorem it_of {Q : Value → Shared → Prop} (q : Sq k s.heap l xs) (f : Q (.ref s.heap.objs.size) { s with heap := s.heap.push { cls := .type (nmK k), data := .fields #[.ref l, .int 0 0] } }) : wpAny (model P w) A (pyIter (.ref l)) Q E s := by
  cases k with
  | lst => exact wpAny_pyIter_list q f
  | tup => exact wpAny_pyIter_tuple q f
end
theorem held_eq {T T' : Addr} {b b' c c' : Bool} {u v u' v' : Value} (e : some ({ cls := .type "zip", dict := none, data := .fields #[rawInt T, .bool b, .bool c, u, v], slots := #[] } : Obj) = some { cls := .type "zip", dict := none, data := .fields #[rawInt T', .bool b', .bool c', u', v'], slots := #[] }) : T = T' := by
  injection e with e
  injection e with _ _ e _
  injection e with e
  injection e with e
  injection e with e _
  unfold rawInt at e
  injection e with e _
  exact Int.ofNat.inj e
/-- a zip under way: i items given out -/
structure Zp (k1 k2 : Kd) (z TI TO i1 i2 l1 l2 : Addr) (xs ys : Array Value) (i : Nat) (h : Heap) : Prop where
  ti : IsPair h TI (.ref i1) (.ref i2)
  c1 : Cur k1 h i1 l1 i
  c2 : Cur k2 h i2 l2 i
  s1 : Sq k1 h l1 xs
  s2 : Sq k2 h l2 ys
  z : (IsZip h z TI TO .none ∧ ∃ a b, IsPair h TO a b) ∨ ∃ T f o, IsZipHeld h z TI TO T f ∧ h.get? T = some o ∧ T ≠ z ∧ T ≠ i1 ∧ T ≠ i2
section
variable {P : Program} {w : World} {A : Around} {E : Value → Shared → Prop} {s : Shared} {k1 k2 : Kd} {z TI TO i1 i2 l1 l2 : Addr} {xs ys : Array Value} {i : Nat} {x y : Value}
theorem Zp.keep {h g : Heap} (Z : Zp k1 k2 z TI TO i1 i2 l1 l2 xs ys i h) (e : ∀ b o, h.get? b = some o → g.get? b = some o) : Zp k1 k2 z TI TO i1 i2 l1 l2 xs ys i g where
  ti := e _ _ Z.ti
  c1 := Z.c1.at_ (e _)
  c2 := Z.c2.at_ (e _)
  s1 := Z.s1.at_ (e _)
  s2 := Z.s2.at_ (e _)
  z := by
    rcases Z.z with ⟨a, b, c, d⟩ | ⟨T, f, o, a, b, c⟩
    · exact .inl ⟨e _ _ a, b, c, e _ _ d⟩
    · exact .inr ⟨T, f, o, e _ _ a, e _ _ b, c⟩
/-- all but one thing d that none of it is -/
theorem Zp.but {h g : Heap} {d : Addr} (Z : Zp k1 k2 z TI TO i1 i2 l1 l2 xs ys i h) (e : ∀ b o, b ≠ d → h.get? b = some o → g.get? b = some o) (n : d ≠ z ∧ d ≠ TI ∧ d ≠ TO ∧ d ≠ i1 ∧ d ≠ i2 ∧ d ≠ l1 ∧ d ≠ l2)
    (nT : ∀ T f, IsZipHeld h z TI TO T f → T ≠ d) : Zp k1 k2 z TI TO i1 i2 l1 l2 xs ys i g where
  ti := e _ _ n.2.1.symm Z.ti
  c1 := Z.c1.at_ fun o => e _ o n.2.2.2.1.symm
  c2 := Z.c2.at_ fun o => e _ o n.2.2.2.2.1.symm
  s1 := Z.s1.at_ fun o => e _ o n.2.2.2.2.2.1.symm
  s2 := Z.s2.at_ fun o => e _ o n.2.2.2.2.2.2.symm
  z := by
    rcases Z.z with ⟨a, b, c, d⟩ | ⟨T, f, o, a, b, c⟩
    · exact .inl ⟨e _ _ n.1.symm a, b, c, e _ _ n.2.2.1.symm d⟩
    · exact .inr ⟨T, f, o, e _ _ n.1.symm a, e _ _ (nT T f a) b, c⟩
theorem free_item {a b : Value} {Q : Value → Shared → Prop} (D : ZipApart z TI TO i1 i2 l1 l2) (ez : IsZip s.heap z TI TO .none) (ei : IsPair s.heap TI (.ref i1) (.ref i2)) (eo : IsPair s.heap TO a b)
    (c1 : Cur k1 s.heap i1 l1 i) (c2 : Cur k2 s.heap i2 l2 i) (q1 : Sq k1 s.heap l1 xs) (q2 : Sq k2 s.heap l2 ys) (ex : xs[i]? = some x) (ey : ys[i]? = some y)
    (f : ∀ g, IsZip g z TI TO (rawInt s.heap.objs.size) → Cur k1 g i1 l1 (i + 1) → Cur k2 g i2 l2 (i + 1) → IsPair g s.heap.objs.size x y → g.objs.size = s.heap.objs.size + 1 →
      (∀ c o, c ≠ z → c ≠ TO → c ≠ i1 → c ≠ i2 → s.heap.get? c = some o → g.get? c = some o) → Q (.ref s.heap.objs.size) { s with heap := g }) :
    wpAny (model P w) A (Builtin.«zip.__next__» ⟨[.ref z], []⟩) (fun fin t => ∃ v, fin = .done (.ret v) ∧ Q v t) E s := by
  refine (show wpAny (model P w) A (field (.ref z) 2 >>= _) _ E s from ?_)
  refine wpAny_bind (wpAny_field ez rfl (x := .bool false) rfl ?_)
  refine (show wpAny (model P w) A (field (.ref z) 3 >>= _) _ E s from ?_)
  refine wpAny_bind (wpAny_field ez rfl (x := .ref TI) rfl (wpAny_bind (wpAny_seqItems ei rfl ?_)))
  refine (show wpAny (model P w) A (Builtin.SmallTypes.ownedTupleIsFree (.ref z) >>= _) _ E s from wpAny_bind ?_)
  rw [Builtin.SmallTypes.ownedTupleIsFree]
  refine wpAny_bind (wpAny_field ez rfl (x := .none) rfl (wpAny_pure ?_))
  rw [if_pos rfl]
  refine wpAny_bind (wpAny_rule (wpAny_bind (wpAny_field ez rfl (x := .ref TO) rfl ?_)))
  refine wpAny_bind (wpAny_setField_rec ez (by simp) fun g1 z1 b1 => wpAny_bind ?_)
  have z1 : IsZip g1 z TI TO .ellipsis := z1
  simp only [List.zipIdx_cons, List.zipIdx_nil, List.forIn_cons, List.forIn_nil]
  refine wpAny_bind (wpAny_bind (wpAny_onRaise ?_))
  refine (show wpAny (model P w) A (Builtin.SmallTypes.nextOf (.ref i1) >>= _) _ _ _ from wpAny_bind ?_)
  refine nx_item (c1.at_ fun o => b1.extBut _ o D.i1z) (q1.at_ fun o => b1.extBut _ o D.l1z) ex fun g2 d1 b2 => wpAny_pure ?_
  have o2 : IsPair g2 TO a b := b2.extBut _ _ D.TOi1 (b1.extBut _ _ D.TOz eo)
  refine wpAny_bind (wpAny_seqItems o2 rfl (wpAny_bind (wpAny_updateSeq_pair o2 fun g3 o3 b3 => ?_)))
  have o3 : IsPair g3 TO x b := o3
  refine wpAny_bind (wpAny_letGo (wpAny_pure (wpAny_bind (wpAny_bind (wpAny_onRaise ?_)))))
  refine (show wpAny (model P w) A (Builtin.SmallTypes.nextOf (.ref i2) >>= _) _ _ _ from wpAny_bind ?_)
  refine nx_item (((c2.at_ fun o => b1.extBut _ o D.i2z).at_ fun o => b2.extBut _ o D.i12.symm).at_ fun o => b3.extBut _ o D.TOi2.symm)
    (((q2.at_ fun o => b1.extBut _ o D.l2z).at_ fun o => b2.extBut _ o D.l2i1).at_ fun o => b3.extBut _ o D.l2TO) ey fun g4 d2 b4 => wpAny_pure ?_
  have o4 : IsPair g4 TO x b := b4.extBut _ _ D.TOi2 o3
  refine wpAny_bind (wpAny_seqItems o4 rfl (wpAny_bind (wpAny_updateSeq_pair o4 fun g5 o5 b5 => ?_)))
  have o5 : IsPair g5 TO x y := o5
  refine wpAny_bind (wpAny_letGo (wpAny_pure (wpAny_pure (wpAny_bind (wpAny_seqItems o5 rfl (wpAny_bind (wpAny_newTuple ?_)))))))
  have n5 : g5.objs.size = s.heap.objs.size := by rw [b5.1, b4.1, b3.1, b2.1, b1.1]
  have z5 : IsZip g5 z TI TO .ellipsis := b5.extBut _ _ D.TOz.symm (b4.extBut _ _ D.i2z.symm (b3.extBut _ _ D.TOz.symm (b2.extBut _ _ D.i1z.symm z1)))
  have up5 : ∀ c o, c ≠ z → c ≠ TO → c ≠ i1 → c ≠ i2 → s.heap.get? c = some o → g5.get? c = some o := fun c o m1 m2 m3 m4 e =>
    b5.extBut _ _ m2 (b4.extBut _ _ m4 (b3.extBut _ _ m2 (b2.extBut _ _ m3 (b1.extBut _ _ m1 e))))
  have e1 : Cur k1 g5 i1 l1 (i + 1) := ((d1.at_ fun o => b3.extBut _ o D.TOi1.symm).at_ fun o => b4.extBut _ o D.i12).at_ fun o => b5.extBut _ o D.TOi1.symm
  have e2 : Cur k2 g5 i2 l2 (i + 1) := d2.at_ fun o => b5.extBut _ o D.TOi2.symm
  have lz : z < g5.objs.size := Heap.lt_size z5
  refine (show wpAny (model P w) A (Builtin.SmallTypes.ownedTupleHandOut (.ref z) (.ref g5.objs.size) >>= _) _ _ _ from wpAny_bind ?_)
  rw [Builtin.SmallTypes.ownedTupleHandOut]
  have z6 : IsZip (g5.push { cls := .type "tuple", data := .seq #[x, y] }) z TI TO .ellipsis := Heap.get?_push_of_some _ z5
  refine wpAny_bind (wpAny_setField_rec z6 (by simp) fun g7 z7 b7 => ?_)
  have z7 : IsZip g7 z TI TO (rawInt g5.objs.size) := z7
  refine wpAny_setField_rec z7 (by simp) fun g8 z8 b8 => ?_
  have z8 : IsZip g8 z TI TO (rawInt g5.objs.size) := z8
  have up8 : ∀ c o, c ≠ z → g5.get? c = some o → g8.get? c = some o := fun c o m e => b8.extBut _ _ m (b7.extBut _ _ m (Heap.get?_push_of_some _ e))
  have t8 : IsPair g8 g5.objs.size x y := b8.extBut _ _ (Nat.ne_of_gt lz) (b7.extBut _ _ (Nat.ne_of_gt lz) (Heap.get?_push_size _ rfl))
  have n8 : g8.objs.size = g5.objs.size + 1 := by rw [b8.1, b7.1, Heap.size_push]
  rw [n5] at z8 t8 n8
  refine wpAny_pure ⟨_, rfl, (show Q (.ref g5.objs.size) _ from ?_)⟩
  rw [n5]
  exact f g8 z8 (e1.at_ fun o => up8 _ o D.i1z) (e2.at_ fun o => up8 _ o D.i2z) t8 n8 fun c o m1 m2 m3 m4 e => up8 c o m1 (up5 c o m1 m2 m3 m4 e)
theorem held_item {T : Addr} {b : Bool} {oT : Obj} {Q : Value → Shared → Prop} (D : ZipApart z TI TO i1 i2 l1 l2) (ez : IsZipHeld s.heap z TI TO T b) (eT : s.heap.get? T = some oT) (ei : IsPair s.heap TI (.ref i1) (.ref i2))
    (c1 : Cur k1 s.heap i1 l1 i) (c2 : Cur k2 s.heap i2 l2 i) (q1 : Sq k1 s.heap l1 xs) (q2 : Sq k2 s.heap l2 ys) (ex : xs[i]? = some x) (ey : ys[i]? = some y)
    (f : ∀ g, IsZipHeld g z TI TO T true → Cur k1 g i1 l1 (i + 1) → Cur k2 g i2 l2 (i + 1) → IsPair g s.heap.objs.size x y → g.objs.size = s.heap.objs.size + 1 →
      (∀ c o, c ≠ z → c ≠ i1 → c ≠ i2 → s.heap.get? c = some o → g.get? c = some o) → Q (.ref s.heap.objs.size) { s with heap := g }) :
    wpAny (model P w) A (Builtin.«zip.__next__» ⟨[.ref z], []⟩) (fun fin t => ∃ v, fin = .done (.ret v) ∧ Q v t) E s := by
  refine (show wpAny (model P w) A (field (.ref z) 2 >>= _) _ E s from ?_)
  refine wpAny_bind (wpAny_field ez rfl (x := .bool false) rfl ?_)
  refine (show wpAny (model P w) A (field (.ref z) 3 >>= _) _ E s from ?_)
  refine wpAny_bind (wpAny_field ez rfl (x := .ref TI) rfl (wpAny_bind (wpAny_seqItems ei rfl ?_)))
  refine (show wpAny (model P w) A (Builtin.SmallTypes.ownedTupleIsFree (.ref z) >>= _) _ E s from wpAny_bind ?_)
  refine wpAny_tupleHeld_zip ez eT fun g1 z1 b1 => ?_
  rw [if_neg (show ¬ (false = true) from Bool.false_ne_true)]
  refine wpAny_bind ?_
  rw [← Array.forIn_toList]
  simp only [List.forIn_cons, List.forIn_nil]
  refine wpAny_bind (wpAny_bind (wpAny_holding ?_))
  refine (show wpAny (model P w) A (Builtin.SmallTypes.nextOf (.ref i1) >>= _) _ _ _ from wpAny_bind ?_)
  refine nx_item (s := { s with heap := g1 }) (c1.at_ fun o => b1.extBut _ o D.i1z) (q1.at_ fun o => b1.extBut _ o D.l1z) ex fun g2 d1 b2 => wpAny_pure (wpAny_pure (wpAny_bind (wpAny_bind (wpAny_holding ?_))))
  refine (show wpAny (model P w) A (Builtin.SmallTypes.nextOf (.ref i2) >>= _) _ _ _ from wpAny_bind ?_)
  refine nx_item (s := { s with heap := g2 }) ((c2.at_ fun o => b1.extBut _ o D.i2z).at_ fun o => b2.extBut _ o D.i12.symm) ((q2.at_ fun o => b1.extBut _ o D.l2z).at_ fun o => b2.extBut _ o D.l2i1) ey fun g3 d2 b3 => wpAny_pure (wpAny_pure (wpAny_pure ?_))
  refine (show wpAny (model P w) A (newTuple [x, y] >>= _) _ _ _ from wpAny_bind (wpAny_newTuple ?_))
  have n3 : g3.objs.size = s.heap.objs.size := by rw [b3.1, b2.1, b1.1]
  have z3 : IsZipHeld g3 z TI TO T true := b3.extBut _ _ D.i2z.symm (b2.extBut _ _ D.i1z.symm z1)
  refine wpAny_pure ⟨_, rfl, (show Q (.ref g3.objs.size) _ from ?_)⟩
  have t4 : IsPair (g3.push { cls := .type "tuple", data := .seq #[x, y] }) g3.objs.size x y := Heap.get?_push_size _ rfl
  have n4 : (g3.push { cls := .type "tuple", data := .seq #[x, y] }).objs.size = g3.objs.size + 1 := Heap.size_push ..
  rw [n3] at t4 n4 ⊢
  exact f _ (Heap.get?_push_of_some _ z3) ((d1.at_ fun o => b3.extBut _ o D.i12).at_ fun o e => Heap.get?_push_of_some _ e) (d2.at_ fun o e => Heap.get?_push_of_some _ e) t4 n4 fun c o m1 m2 m3 e =>
    Heap.get?_push_of_some _ (b3.extBut _ _ m3 (b2.extBut _ _ m2 (b1.extBut _ _ m1 e)))
/-- next of a zip: the pair stands behind all -/
theorem zp_item {Q : Option Value → Shared → Prop} (D : ZipApart z TI TO i1 i2 l1 l2) (Z : Zp k1 k2 z TI TO i1 i2 l1 l2 xs ys i s.heap) (ex : xs[i]? = some x) (ey : ys[i]? = some y)
    (f : ∀ g, Zp k1 k2 z TI TO i1 i2 l1 l2 xs ys (i + 1) g → (∀ T b, IsZipHeld g z TI TO T b → T = s.heap.objs.size ∨ ∃ b, IsZipHeld s.heap z TI TO T b) → IsPair g s.heap.objs.size x y → g.objs.size = s.heap.objs.size + 1 →
      (∀ c o, c ≠ z → c ≠ TO → c ≠ i1 → c ≠ i2 → s.heap.get? c = some o → g.get? c = some o) → Q (some (.ref s.heap.objs.size)) { s with heap := g }) : wpAny (model P w) A (pyNext (.ref z)) Q E s := by
  have lt : ∀ {c o}, s.heap.get? c = some o → s.heap.objs.size ≠ c := fun e => Nat.ne_of_gt (Heap.lt_size e)
  have m1 : s.heap.objs.size ≠ i1 := let ⟨_, e⟩ := Z.c1.ex; lt e
  have m2 : s.heap.objs.size ≠ i2 := let ⟨_, e⟩ := Z.c2.ex; lt e
  rw [pyNext]
  rcases Z.z with ⟨ez, a, b, eo⟩ | ⟨T, b, oT, ez, eT, r1, r2, r3⟩
  · have ty : s.TypeIs (.ref z) "zip" := ⟨_, ez, rfl⟩
    refine wpAny_bind (wpAny_attempt (wpAny_callSpecial?_slot (name := Str.ofString "__next__") ty F.slot_zip_next (wpAny_call_entry F.slot_zip_next ty F.entry_zip_next ?_ (F.args_zip_next_1 _))))
    refine free_item D ez Z.ti eo Z.c1 Z.c2 Z.s1 Z.s2 ex ey fun g a1 a2 a3 a4 a5 up => wpAny_pure (f g ?_ ?_ a4 a5 up)
    · exact ⟨up _ _ D.TIz D.TITO D.TIi1 D.TIi2 Z.ti, a2, a3, Z.s1.at_ fun o => up _ o D.l1z D.l1TO D.l1i1 D.l1i2, Z.s2.at_ fun o => up _ o D.l2z D.l2TO D.l2i1 D.l2i2, .inr ⟨_, false, _, a1, a4, lt ez, m1, m2⟩⟩
    · intro T' b' e'
      have e2 := (show g.get? z = _ from a1).symm.trans e'
      exact .inl (held_eq e2).symm
  · have ty : s.TypeIs (.ref z) "zip" := ⟨_, ez, rfl⟩
    refine wpAny_bind (wpAny_attempt (wpAny_callSpecial?_slot (name := Str.ofString "__next__") ty F.slot_zip_next (wpAny_call_entry F.slot_zip_next ty F.entry_zip_next ?_ (F.args_zip_next_1 _))))
    refine held_item D ez eT Z.ti Z.c1 Z.c2 Z.s1 Z.s2 ex ey fun g a1 a2 a3 a4 a5 up => wpAny_pure (f g ?_ ?_ a4 a5 fun c o n1 _ n3 n4 e => up c o n1 n3 n4 e)
    · exact ⟨up _ _ D.TIz D.TIi1 D.TIi2 Z.ti, a2, a3, Z.s1.at_ fun o => up _ o D.l1z D.l1i1 D.l1i2, Z.s2.at_ fun o => up _ o D.l2z D.l2i1 D.l2i2, .inr ⟨T, true, oT, a1, up _ _ r1 r2 r3 eT, r1, r2, r3⟩⟩
    · intro T' b' e'
      have e2 := (show g.get? z = _ from a1).symm.trans e'
      exact .inr ⟨b, held_eq e2 ▸ ez⟩
end
end Vf
namespace Vf
open PySem L2 PyProof.Rows PySem.Spec
section
variable {P : Program} {w : World} {A : Around} {E : Value → Shared → Prop} {s : Shared} {k1 k2 : Kd} {z TI TO i1 i2 l1 l2 : Addr} {xs ys : Array Value} {i : Nat}
theorem over_z {Q : Fin → Shared → Prop} (hh : A.handled = none) (D : ZipApart z TI TO i1 i2 l1 l2) (Z : Zp k1 k2 z TI TO i1 i2 l1 l2 xs ys i s.heap) (n : xs[i]? = none ∨ ys[i]? = none)
    (f : ∀ g a, (∀ c o, c ≠ z → c ≠ TO → c ≠ i1 → c ≠ i2 → s.heap.get? c = some o → g.get? c = some o) → (∃ o, g.get? a = some o ∧ o.cls = .type "StopIteration") → E (.ref a) { s with heap := g }) :
    wpAny (model P w) A (Builtin.«zip.__next__» ⟨[.ref z], []⟩) Q E s := by
  obtain ⟨ei, c1, c2, q1, q2, zz⟩ := Z
  obtain ⟨f0, b0, ez⟩ : ∃ f0 b0, s.heap.get? z = some { cls := .type "zip", dict := none, data := .fields #[f0, .bool b0, .bool false, .ref TI, .ref TO], slots := #[] } := by
    rcases zz with ⟨e, _⟩ | ⟨T, b, _, e, _⟩
    · exact ⟨_, _, e⟩
    · exact ⟨_, _, e⟩
  refine (show wpAny (model P w) A (field (.ref z) 2 >>= _) _ E s from ?_)
  refine wpAny_bind (wpAny_field ez rfl (x := .bool false) rfl ?_)
  refine (show wpAny (model P w) A (field (.ref z) 3 >>= _) _ E s from ?_)
  refine wpAny_bind (wpAny_field ez rfl (x := .ref TI) rfl (wpAny_bind (wpAny_seqItems ei rfl ?_)))
  refine (show wpAny (model P w) A (Builtin.SmallTypes.ownedTupleIsFree (.ref z) >>= _) _ E s from wpAny_bind ?_)
  rcases zz with ⟨ez, a, b, eo⟩ | ⟨T, b, oT, ez, eT, r1, r2, r3⟩
  · rw [Builtin.SmallTypes.ownedTupleIsFree]
    refine wpAny_bind (wpAny_field ez rfl (x := .none) rfl (wpAny_pure ?_))
    rw [if_pos rfl]
    refine wpAny_bind (wpAny_rule (wpAny_bind (wpAny_field ez rfl (x := .ref TO) rfl ?_)))
    refine wpAny_bind (wpAny_setField_rec ez (by simp) fun g1 z1 b1 => wpAny_bind ?_)
    have z1 : IsZip g1 z TI TO .ellipsis := z1
    simp only [List.zipIdx_cons, List.zipIdx_nil, List.forIn_cons, List.forIn_nil]
    refine wpAny_bind (wpAny_bind (wpAny_onRaise ?_))
    refine (show wpAny (model P w) A (Builtin.SmallTypes.nextOf (.ref i1) >>= _) _ _ _ from wpAny_bind ?_)
    cases ex : xs[i]? with
    | none =>
      refine nx_end hh (c1.at_ fun o => b1.extBut _ o D.i1z) (q1.at_ fun o => b1.extBut _ o D.l1z) ex fun g2 a b2 ⟨oa, ea, ca⟩ => ?_
      have z2 : IsZip g2 z TI TO .ellipsis := b2 _ _ D.i1z.symm z1
      have na : a ≠ z := fun y => by rw [y, z2] at ea; cases ea; simp at ca
      refine wpAny_setField_rec z2 (by simp) fun g3 _ b3 => f g3 a (fun c o m1 _ m3 _ y => b3.extBut _ _ m1 (b2 _ _ m3 (b1.extBut _ _ m1 y))) ⟨oa, b3.extBut _ _ na ea, ca⟩
    | some x =>
      have ey : ys[i]? = none := n.resolve_left fun y => by rw [ex] at y; cases y
      refine nx_item (c1.at_ fun o => b1.extBut _ o D.i1z) (q1.at_ fun o => b1.extBut _ o D.l1z) ex fun g2 d1 b2 => wpAny_pure ?_
      have o2 : IsPair g2 TO a b := b2.extBut _ _ D.TOi1 (b1.extBut _ _ D.TOz eo)
      refine wpAny_bind (wpAny_seqItems o2 rfl (wpAny_bind (wpAny_updateSeq_pair o2 fun g3 o3 b3 => ?_)))
      refine wpAny_bind (wpAny_letGo (wpAny_pure (wpAny_bind (wpAny_bind (wpAny_onRaise ?_)))))
      refine (show wpAny (model P w) A (Builtin.SmallTypes.nextOf (.ref i2) >>= _) _ _ _ from wpAny_bind ?_)
      refine nx_end hh (((c2.at_ fun o => b1.extBut _ o D.i2z).at_ fun o => b2.extBut _ o D.i12.symm).at_ fun o => b3.extBut _ o D.TOi2.symm)
        (((q2.at_ fun o => b1.extBut _ o D.l2z).at_ fun o => b2.extBut _ o D.l2i1).at_ fun o => b3.extBut _ o D.l2TO) ey fun g4 a b4 ⟨oa, ea, ca⟩ => ?_
      have z4 : IsZip g4 z TI TO .ellipsis := b4 _ _ D.i2z.symm (b3.extBut _ _ D.TOz.symm (b2.extBut _ _ D.i1z.symm z1))
      have na : a ≠ z := fun y => by rw [y, z4] at ea; cases ea; simp at ca
      refine wpAny_setField_rec z4 (by simp) fun g5 _ b5 => f g5 a (fun c o m1 m2 m3 m4 y => b5.extBut _ _ m1 (b4 _ _ m4 (b3.extBut _ _ m2 (b2.extBut _ _ m3 (b1.extBut _ _ m1 y))))) ⟨oa, b5.extBut _ _ na ea, ca⟩
  · refine wpAny_tupleHeld_zip ez eT fun g1 z1 b1 => ?_
    rw [if_neg (show ¬ (false = true) from Bool.false_ne_true)]
    refine wpAny_bind ?_
    rw [← Array.forIn_toList]
    simp only [List.forIn_cons, List.forIn_nil]
    refine wpAny_bind (wpAny_bind (wpAny_holding ?_))
    refine (show wpAny (model P w) A (Builtin.SmallTypes.nextOf (.ref i1) >>= _) _ _ _ from wpAny_bind ?_)
    cases ex : xs[i]? with
    | none => exact nx_end (s := { s with heap := g1 }) hh (c1.at_ fun o => b1.extBut _ o D.i1z) (q1.at_ fun o => b1.extBut _ o D.l1z) ex fun g2 a b2 ea => f g2 a (fun c o m1 _ m3 _ y => b2 _ _ m3 (b1.extBut _ _ m1 y)) ea
    | some x =>
      have ey : ys[i]? = none := n.resolve_left fun y => by rw [ex] at y; cases y
      refine nx_item (s := { s with heap := g1 }) (c1.at_ fun o => b1.extBut _ o D.i1z) (q1.at_ fun o => b1.extBut _ o D.l1z) ex fun g2 d1 b2 => wpAny_pure (wpAny_pure (wpAny_bind (wpAny_bind (wpAny_holding ?_))))
      refine (show wpAny (model P w) A (Builtin.SmallTypes.nextOf (.ref i2) >>= _) _ _ _ from wpAny_bind ?_)
      exact nx_end (s := { s with heap := g2 }) hh ((c2.at_ fun o => b1.extBut _ o D.i2z).at_ fun o => b2.extBut _ o D.i12.symm) ((q2.at_ fun o => b1.extBut _ o D.l2z).at_ fun o => b2.extBut _ o D.l2i1) ey
        fun g3 a b3 ea => f g3 a (fun c o m1 _ m3 m4 y => b3 _ _ m4 (b2.extBut _ _ m3 (b1.extBut _ _ m1 y))) ea
theorem zp_end {Q : Option Value → Shared → Prop} (hh : A.handled = none) (D : ZipApart z TI TO i1 i2 l1 l2) (Z : Zp k1 k2 z TI TO i1 i2 l1 l2 xs ys i s.heap) (n : xs[i]? = none ∨ ys[i]? = none)
    (f : ∀ g, (∀ c o, c ≠ z → c ≠ TO → c ≠ i1 → c ≠ i2 → s.heap.get? c = some o → g.get? c = some o) → Q none { s with heap := g }) : wpAny (model P w) A (pyNext (.ref z)) Q E s := by
  have ty : s.TypeIs (.ref z) "zip" := by
    rcases Z.z with ⟨e, _⟩ | ⟨T, b, _, e, _⟩
    · exact ⟨_, e, rfl⟩
    · exact ⟨_, e, rfl⟩
  rw [pyNext]
  refine wpAny_bind (wpAny_attempt (wpAny_callSpecial?_slot (name := Str.ofString "__next__") ty F.slot_zip_next (wpAny_call_entry F.slot_zip_next ty F.entry_zip_next (over_z hh D Z n fun g a up ⟨o, ea, ca⟩ => ?_) (F.args_zip_next_1 _))))
  exact wpAny_bind (wpAny_isInstance (T := "StopIteration") (b := true) ⟨o, ea, ca⟩ isSubtype_stop (wpAny_pure (f _ up)))
end
/-! ## zip(a, b) -/
abbrev zh1 (k : Kd) (h : Heap) (l : Addr) : Heap := h.push { cls := .type (nmK k), data := .fields #[.ref l, .int 0 0] }
abbrev zh3 (k1 k2 : Kd) (h : Heap) (l1 l2 : Addr) : Heap := (zh1 k2 (zh1 k1 h l1) l2).push { cls := .type "tuple", data := .seq #[.ref h.objs.size, .ref (zh1 k1 h l1).objs.size] }
abbrev zh4 (k1 k2 : Kd) (h : Heap) (l1 l2 : Addr) : Heap := (zh3 k1 k2 h l1 l2).push { cls := .type "tuple", data := .seq #[.none, .none] }
abbrev zh5 (k1 k2 : Kd) (h : Heap) (l1 l2 : Addr) : Heap := (zh4 k1 k2 h l1 l2).push { cls := .type "zip", data := .fields #[.none, .bool false, .bool false, .ref (zh1 k2 (zh1 k1 h l1) l2).objs.size, .ref (zh3 k1 k2 h l1 l2).objs.size] }
theorem meets_zp (k1 k2 : Kd) (l1 l2 : Addr) (xs ys : Array Value) : Meets (Builtin.«zip.__new__» ⟨[.type "zip", .ref l1, .ref l2], []⟩) (fun _ R s => Sq k1 s.heap l1 xs ∧ Sq k2 s.heap l2 ys ∧ R (.ok (.ret (.ref (zh4 k1 k2 s.heap l1 l2).objs.size))) { s with heap := zh5 k1 k2 s.heap l1 l2 }) :=
  .of_wp fun prog w A R s h => by
    obtain ⟨hp, g, d, tk, os⟩ := s
    obtain ⟨q1, q2, h⟩ := h
    have sub := sub_zip
    have q2 : Sq k2 (zh1 k1 hp l1) l2 ys := q2.at_ fun o e => Heap.get?_push_of_some _ e
    cases k1 <;> cases k2
    · have a1 : Heap.IsList (Shared.heap ⟨hp, g, d, tk, os⟩) l1 xs := q1
      have a2 : Heap.IsList (Shared.heap ⟨hp.push { cls := .type "list_iterator", data := .fields #[.ref l1, .int 0 0] }, g, d, tk, os⟩) l2 ys := q2
      wp_walk using wpAny_pyIter_list a1, wpAny_pyIter_list a2
      exact ⟨_, rfl, h⟩
    · have a1 : Heap.IsList (Shared.heap ⟨hp, g, d, tk, os⟩) l1 xs := q1
      have a2 : Heap.IsTuple (Shared.heap ⟨hp.push { cls := .type "list_iterator", data := .fields #[.ref l1, .int 0 0] }, g, d, tk, os⟩) l2 ys := q2
      wp_walk using wpAny_pyIter_list a1, wpAny_pyIter_tuple a2
      exact ⟨_, rfl, h⟩
    · have a1 : Heap.IsTuple (Shared.heap ⟨hp, g, d, tk, os⟩) l1 xs := q1
      have a2 : Heap.IsList (Shared.heap ⟨hp.push { cls := .type "tuple_iterator", data := .fields #[.ref l1, .int 0 0] }, g, d, tk, os⟩) l2 ys := q2
      wp_walk using wpAny_pyIter_tuple a1, wpAny_pyIter_list a2
      exact ⟨_, rfl, h⟩
    · have a1 : Heap.IsTuple (Shared.heap ⟨hp, g, d, tk, os⟩) l1 xs := q1
      have a2 : Heap.IsTuple (Shared.heap ⟨hp.push { cls := .type "tuple_iterator", data := .fields #[.ref l1, .int 0 0] }, g, d, tk, os⟩) l2 ys := q2
      wp_walk using wpAny_pyIter_tuple a1, wpAny_pyIter_tuple a2
      exact ⟨_, rfl, h⟩
section
variable {P : Program} {w : World} {A : Around} {E : Value → Shared → Prop} {s : Shared} {k1 k2 : Kd} {l1 l2 : Addr} {xs ys : Array Value}
theorem cur_new {k : Kd} {h : Heap} {it l : Addr} (e : h.get? it = some { cls := .type (nmK k), data := .fields #[.ref l, .int 0 0] }) : Cur k h it l 0 := by
  cases k with
  | lst => exact ⟨_, e, rfl, rfl⟩
  | tup => exact ⟨_, e, rfl, rfl⟩
theorem call_zp {Q : Value → Shared → Prop} (q1 : Sq k1 s.heap l1 xs) (q2 : Sq k2 s.heap l2 ys)
    (f : ∀ g, Zp k1 k2 (s.heap.objs.size + 4) (s.heap.objs.size + 2) (s.heap.objs.size + 3) s.heap.objs.size (s.heap.objs.size + 1) l1 l2 xs ys 0 g → IsZip g (s.heap.objs.size + 4) (s.heap.objs.size + 2) (s.heap.objs.size + 3) .none →
      ZipApart (s.heap.objs.size + 4) (s.heap.objs.size + 2) (s.heap.objs.size + 3) s.heap.objs.size (s.heap.objs.size + 1) l1 l2 → g.objs.size = s.heap.objs.size + 5 → (∀ c o, s.heap.get? c = some o → g.get? c = some o) → Q (.ref (s.heap.objs.size + 4)) { s with heap := g }) :
    wpAny (model P w) A (call (.type "zip") [.ref l1, .ref l2]) Q E s := by
  refine callType_new F.called_zip (by decide) (F.typeCall_zip_2 _ _) (F.newCall_zip_2 _ _) (fun obj => F.args_object_init_3 obj _ _) F.entry_zip_new (meets_zp k1 k2 l1 l2 xs ys) ⟨q1, q2, ?_⟩
  have n1 : (zh1 k1 s.heap l1).objs.size = s.heap.objs.size + 1 := Heap.size_push ..
  have n2 : (zh1 k2 (zh1 k1 s.heap l1) l2).objs.size = s.heap.objs.size + 2 := by rw [Heap.size_push, n1]
  have n3 : (zh3 k1 k2 s.heap l1 l2).objs.size = s.heap.objs.size + 3 := by rw [Heap.size_push, n2]
  have n4 : (zh4 k1 k2 s.heap l1 l2).objs.size = s.heap.objs.size + 4 := by rw [Heap.size_push, n3]
  have n5 : (zh5 k1 k2 s.heap l1 l2).objs.size = s.heap.objs.size + 5 := by rw [Heap.size_push, n4]
  have fr : (∀ k : Kd, ({ cls := .type (nmK k), data := .fields #[.ref l1, .int 0 0] } : Obj).isFreed = false) ∧ ∀ k : Kd, ({ cls := .type (nmK k), data := .fields #[.ref l2, .int 0 0] } : Obj).isFreed = false := ⟨fun k => by cases k <;> rfl, fun k => by cases k <;> rfl⟩
  have g5 : (zh5 k1 k2 s.heap l1 l2).get? (zh4 k1 k2 s.heap l1 l2).objs.size = some _ := Heap.get?_push_size _ rfl
  have g4 : (zh5 k1 k2 s.heap l1 l2).get? (zh3 k1 k2 s.heap l1 l2).objs.size = some _ := Heap.get?_push_of_some _ (Heap.get?_push_size _ rfl)
  have g3 : (zh5 k1 k2 s.heap l1 l2).get? (zh1 k2 (zh1 k1 s.heap l1) l2).objs.size = some _ := Heap.get?_push_of_some _ (Heap.get?_push_of_some _ (Heap.get?_push_size _ rfl))
  have g2 : (zh5 k1 k2 s.heap l1 l2).get? (zh1 k1 s.heap l1).objs.size = some _ := Heap.get?_push_of_some _ (Heap.get?_push_of_some _ (Heap.get?_push_of_some _ (Heap.get?_push_size _ (fr.2 k2))))
  have g1 : (zh5 k1 k2 s.heap l1 l2).get? s.heap.objs.size = some _ := Heap.get?_push_of_some _ (Heap.get?_push_of_some _ (Heap.get?_push_of_some _ (Heap.get?_push_of_some _ (Heap.get?_push_size _ (fr.1 k1)))))
  have up : ∀ c o, s.heap.get? c = some o → (zh5 k1 k2 s.heap l1 l2).get? c = some o := fun c o x => Heap.get?_push_of_some _ (Heap.get?_push_of_some _ (Heap.get?_push_of_some _ (Heap.get?_push_of_some _ (Heap.get?_push_of_some _ x))))
  refine (show _ ∧ _ from ?_)
  rw [n2, n3, n4] at g5
  rw [n1, n2] at g3
  rw [n3] at g4
  rw [n1] at g2
  rw [n4]
  have la : l1 < s.heap.objs.size := let ⟨_, e⟩ := q1.ex; Heap.lt_size e
  have lb : l2 < s.heap.objs.size := let ⟨_, e⟩ := q2.ex; Heap.lt_size e
  exact ⟨⟨_, g5, rfl⟩, f _ ⟨g3, cur_new g1, cur_new g2, q1.at_ (up _), q2.at_ (up _), .inl ⟨g5, _, _, g4⟩⟩ g5 (PySem.W.ktu_apart s.heap.objs.size l1 l2 la lb) n5 up⟩
end
end Vf
namespace Vf
open PySem L2 PyProof.Rows PySem.Spec
theorem zip_no_len : typeLookup (.type "zip") "__len__" = pure none := am_miss_of_fast (by decide +kernel)
theorem zip_no_hint : typeLookup (.type "zip") "__length_hint__" = pure none := am_miss_of_fast (by decide +kernel)
/-- what a list has got of a zip -/
structure Got (xs ys : Array Value) (base i : Nat) (acc : Array Value) (g : Heap) : Prop where
  size : acc.size = i
  at_ : ∀ j, j < i → ∃ T x y, acc[j]? = some (.ref T) ∧ xs[j]? = some x ∧ ys[j]? = some y ∧ IsPair g T x y ∧ base ≤ T
theorem neA {a b : Addr} {n : Nat} (h : Nat.lt b n) (k : Nat.le n a) : a ≠ b := fun e => Nat.lt_irrefl n (Nat.lt_of_le_of_lt k (e ▸ h))
section
variable {P : Program} {w : World} {A : Around} {E : Value → Shared → Prop} {R : Result → Shared → Prop} {s : Shared} {k1 k2 : Kd} {z TI TO i1 i2 l1 l2 S : Addr} {xs ys : Array Value} {n base : Nat} {h0 : Heap}
theorem zl_loop (hh : A.handled = none) (D : ZipApart z TI TO i1 i2 l1 l2) (res : Value) (hn : n ≤ sizeLine) (ex : xs.size = n) (ey : ys.size = n) (nS : S ≠ z ∧ S ≠ TI ∧ S ≠ TO ∧ S ≠ i1 ∧ S ≠ i2 ∧ S ≠ l1 ∧ S ≠ l2) (lt : Nat.lt S base ∧ Nat.lt z base ∧ Nat.lt TO base ∧ Nat.lt i1 base ∧ Nat.lt i2 base) :
    ∀ (m i : Nat) (g : Heap) (acc : Array Value) (c : Nat), n - i = m → i ≤ n → Zp k1 k2 z TI TO i1 i2 l1 l2 xs ys i g → (∀ T b, IsZipHeld g z TI TO T b → base ≤ T) → base ≤ g.objs.size →
      g.get? S = some { cls := .type "list", dict := none, data := .seq acc c, slots := #[] } → Got xs ys base i acc g → (∀ b o, b < base → b ≠ S → b ≠ z → b ≠ TO → b ≠ i1 → b ≠ i2 → h0.get? b = some o → g.get? b = some o) →
      (∀ g2 acc2 c2, g2.get? S = some { cls := .type "list", dict := none, data := .seq acc2 c2, slots := #[] } → Got xs ys base n acc2 g2 → (∀ b o, b < base → b ≠ S → b ≠ z → b ≠ TO → b ≠ i1 → b ≠ i2 → h0.get? b = some o → g2.get? b = some o) → R (.ok (.ret res)) { s with heap := g2 }) →
      codeAny (model P w) A (.builtin "list.extend.loop" ⟨[.ref S, .ref z, res], []⟩) R { s with heap := g } := by
  intro m
  induction m with
  | zero =>
    intro i g acc c em hi Z _ _ eS G up fin
    obtain rfl : i = n := by omega
    refine codeAny_builtin F.entry_extend_loop ?_
    rw [Around.under_plainId F.plain_extend_loop]
    refine (show wpAny (model P w) A.in1 (pyNext (.ref z) >>= _) _ _ _ from wpAny_bind ?_)
    refine zp_end (s := { s with heap := g }) hh D Z (.inl (Array.getElem?_eq_none (by omega))) fun g2 up2 => wpAny_pure ?_
    refine fin g2 acc c (up2 _ _ nS.1 nS.2.2.1 nS.2.2.2.1 nS.2.2.2.2.1 eS) ⟨G.size, fun j hj => ?_⟩ fun b o b1 b2 b3 b4 b5 b6 e => up2 _ _ b3 b4 b5 b6 (up b o b1 b2 b3 b4 b5 b6 e)
    obtain ⟨T, x, y, e1, e2, e3, e4, e5⟩ := G.at_ j hj
    exact ⟨T, x, y, e1, e2, e3, up2 _ _ (neA lt.2.1 e5) (neA lt.2.2.1 e5) (neA lt.2.2.2.1 e5) (neA lt.2.2.2.2 e5) e4, e5⟩
  | succ m ih =>
    intro i g acc c em hi Z hT hb eS G up fin
    have hlt : i < n := by omega
    refine codeAny_builtin F.entry_extend_loop ?_
    rw [Around.under_plainId F.plain_extend_loop]
    refine (show wpAny (model P w) A.in1 (pyNext (.ref z) >>= _) _ _ _ from wpAny_bind ?_)
    obtain ⟨x, hx⟩ : ∃ x, xs[i]? = some x := ⟨_, Array.getElem?_eq_getElem (by omega)⟩
    obtain ⟨y, hy⟩ : ∃ y, ys[i]? = some y := ⟨_, Array.getElem?_eq_getElem (by omega)⟩
    refine zp_item (s := { s with heap := g }) D Z hx hy fun g2 Z2 hT2 pr sz up2 => ?_
    have hT2 : ∀ T b, IsZipHeld g2 z TI TO T b → T = g.objs.size ∨ ∃ b, IsZipHeld g z TI TO T b := hT2
    have pr : IsPair g2 g.objs.size x y := pr
    have sz : g2.objs.size = g.objs.size + 1 := sz
    have eS2 := up2 _ _ nS.1 nS.2.2.1 nS.2.2.2.1 nS.2.2.2.2.1 eS
    have hT3 : ∀ T b, IsZipHeld g2 z TI TO T b → base ≤ T := fun T b e => (hT2 T b e).elim (fun q => q ▸ hb) fun ⟨b', e'⟩ => hT T b' e'
    refine (show wpAny (model P w) A.in1 (updateSeq S (·.push (.ref g.objs.size)) >>= _) _ _ _ from wpAny_bind ?_)
    have oth : ∀ b o, b ≠ S → g2.get? b = some o → (g2.update S (Obj.mapSeq (·.push (Value.ref g.objs.size)))).get? b = some o := fun b o nb e => (Heap.get?_update_other _ _ nb.symm).trans e
    have e3 := Heap.get?_update_self (Obj.mapSeq (·.push (Value.ref g.objs.size))) eS2 rfl
    refine wpAny_updateSeq (s := { s with heap := g2 }) eS2 rfl (wpAny_pure ⟨plainId_quiet F.plain_extend_loop _, ih (i + 1) _ _ _ (by omega) hlt (Z2.but oth nS fun T f e => ?_) (fun T b e => ?_) ?_ e3 ⟨by rw [Array.size_push, G.size], fun j hj => ?_⟩ (fun b o b1 b2 b3 b4 b5 b6 e => oth _ _ b2 (up2 _ _ b3 b4 b5 b6 (up b o b1 b2 b3 b4 b5 b6 e))) fin⟩)
      (by rw [G.size]; omega) (by show (acc.push (Value.ref g.objs.size)).size ≤ sizeLine + 1; rw [Array.size_push, G.size]; omega)
    · exact neA lt.1 (hT3 T f e)
    · refine hT3 T b ?_
      have q : (g2.update S (Obj.mapSeq (·.push (Value.ref g.objs.size)))).get? z = g2.get? z := Heap.get?_update_other _ _ nS.1
      exact q.symm.trans e
    · rw [Heap.size_update, sz]
      exact Nat.le_succ_of_le hb
    · by_cases hji : j < i
      · obtain ⟨T, x', y', e1, e2, e4, e5, e6⟩ := G.at_ j hji
        refine ⟨T, x', y', ?_, e2, e4, oth _ _ (neA lt.1 e6) (up2 _ _ (neA lt.2.1 e6) (neA lt.2.2.1 e6) (neA lt.2.2.2.1 e6) (neA lt.2.2.2.2 e6) e5), e6⟩
        rw [Array.getElem?_push, if_neg (by rw [G.size]; omega)]
        exact e1
      · obtain rfl : j = i := by omega
        refine ⟨g.objs.size, x, y, ?_, hx, hy, oth _ _ (neA lt.1 hb) pr, hb⟩
        rw [Array.getElem?_push, if_pos G.size.symm]
/-- list(z) of a new zip -/
theorem call_list_zp {Q : Value → Shared → Prop} (hh : A.handled = none) (D : ZipApart z TI TO i1 i2 l1 l2) (Z : Zp k1 k2 z TI TO i1 i2 l1 l2 xs ys 0 s.heap) (ez : IsZip s.heap z TI TO .none) (hn : n ≤ sizeLine) (ex : xs.size = n) (ey : ys.size = n)
    (f : ∀ g acc c, g.get? s.heap.objs.size = some { cls := .type "list", dict := none, data := .seq acc c, slots := #[] } → Got xs ys (s.heap.objs.size + 1) n acc g →
      (∀ b o, b ≠ z → b ≠ TO → b ≠ i1 → b ≠ i2 → s.heap.get? b = some o → g.get? b = some o) → Q (.ref s.heap.objs.size) { s with heap := g }) :
    wpAny (model P w) A (call (.type "list") [.ref z]) Q E s := by
  have lz : z < s.heap.objs.size := Heap.lt_size ez
  have lTI : TI < s.heap.objs.size := Heap.lt_size Z.ti
  have l1' : i1 < s.heap.objs.size := let ⟨_, e⟩ := Z.c1.ex; Heap.lt_size e
  have l2' : i2 < s.heap.objs.size := let ⟨_, e⟩ := Z.c2.ex; Heap.lt_size e
  have m1 : l1 < s.heap.objs.size := let ⟨_, e⟩ := Z.s1.ex; Heap.lt_size e
  have m2 : l2 < s.heap.objs.size := let ⟨_, e⟩ := Z.s2.ex; Heap.lt_size e
  have lTO : TO < s.heap.objs.size := by
    rcases Z.z with ⟨_, _, _, e⟩ | ⟨T, b, o, e, _⟩
    · exact Heap.lt_size e
    · have := ez.symm.trans e
      simp [rawInt] at this
  refine callType_codes (Q₁ := fun obj t => obj = .ref s.heap.objs.size ∧ t = { s with heap := s.heap.push { cls := .type "list", data := .seq #[] } }) F.called_list (F.typeCall_list_1 _) F.entry_list_init (code_list_new _ ⟨rfl, rfl⟩) fun obj t ⟨e1, e2⟩ => ?_
  subst e1 e2
  have eS : (s.heap.push { cls := .type "list", data := .seq #[] }).get? s.heap.objs.size = some { cls := .type "list", data := .seq #[] } := Heap.get?_push_size _ rfl
  refine ⟨⟨_, eS, rfl⟩, F.args_list_init_2 _ _, ?_⟩
  refine (show wpAny (model P w) A.in1.in1 (do let old ← Builtin.List.listItems (.ref s.heap.objs.size); Builtin.List.listUpdate (.ref s.heap.objs.size) (fun _ => #[]); letGo old.toList.reverse; Builtin.List.listExtendWith (.ref s.heap.objs.size) (.ref z) .none) _ _ _ from wpAny_bind ?_)
  rw [Builtin.List.listItems]
  refine wpAny_bind (wpAny_seqItems eS rfl (wpAny_pure ?_))
  refine (show wpAny (model P w) A.in1.in1 (updateSeq s.heap.objs.size (fun _ => #[]) >>= _) _ _ _ from wpAny_bind (wpAny_updateSeq eS rfl (wpAny_bind (wpAny_letGo ?_))))
  have eS2 := Heap.get?_update_self (Obj.mapSeq (fun _ => (#[] : Array Value))) eS rfl
  obtain ⟨h2, eh2⟩ : ∃ h2, h2 = (s.heap.push { cls := .type "list", data := .seq #[] }).update s.heap.objs.size (Obj.mapSeq fun _ => #[]) := ⟨_, rfl⟩
  have up2 : ∀ b o, b ≠ s.heap.objs.size → s.heap.get? b = some o → h2.get? b = some o := fun b o nb e => by
    rw [eh2]
    exact (Heap.get?_update_other _ _ nb.symm).trans (Heap.get?_push_of_some _ e)
  have z2 : IsZip h2 z TI TO .none := up2 _ _ (Nat.ne_of_lt lz) ez
  have n2 : h2.objs.size = s.heap.objs.size + 1 := by rw [eh2, Heap.size_update, Heap.size_push]
  rw [← eh2] at eS2
  refine (show wpAny (model P w) A.in1.in1 (Builtin.List.listExtendWith (.ref s.heap.objs.size) (.ref z) .none) _ _ { s with heap := (s.heap.push { cls := .type "list", data := .seq #[] }).update s.heap.objs.size (Obj.mapSeq fun _ => #[]) } from ?_)
  rw [← eh2, Builtin.List.listExtendWith]
  refine wpAny_bind (wpAny_typeOf (T := "zip") ⟨_, z2, rfl⟩ ?_)
  have t1 : Builtin.List.listSameRef (.ref s.heap.objs.size) (.ref z) = false := by simp [Builtin.List.listSameRef]; exact Nat.ne_of_gt lz
  have t2 : (Value.type "zip" == Value.type "list") = false := by decide
  have t3 : (Value.type "zip" == Value.type "tuple") = false := by decide
  simp only [t1, t2, t3, Bool.or_self, Bool.false_eq_true, if_false]
  refine wpAny_bind (wpAny_pyIter_zip z2 (wpAny_bind (wpAny_holding ?_)))
  rw [Builtin.List.listLengthHint]
  refine wpAny_bind (wpAny_specialOf (T := "zip") ⟨_, z2, rfl⟩ zip_no_len ?_)
  refine (show wpAny (model P w) A.in1.in1 (specialOf (Value.ref z) (Str.ofString "__length_hint__") >>= _) _ _ _ from wpAny_bind (wpAny_specialOf (T := "zip") ⟨_, z2, rfl⟩ zip_no_hint (wpAny_pure ?_)))
  refine (show wpAny (model P w) A.in1.in1 (rule "list.extend.makes-room" >>= fun _ => Builtin.List.listTouch (.ref s.heap.objs.size) >>= fun _ => again (.builtin "list.extend.loop" ⟨[.ref s.heap.objs.size, .ref z, .none], []⟩)) _ _ _ from wpAny_bind (wpAny_rule (wpAny_bind ?_)))
  refine (show wpAny (model P w) A.in1.in1 (updateSeq s.heap.objs.size (·.push .none) >>= fun _ => updateSeq s.heap.objs.size (·.pop)) _ _ _ from wpAny_bind (wpAny_updateSeq (s := { s with heap := h2 }) eS2 rfl ?_))
  have eS3 := Heap.get?_update_self (Obj.mapSeq (·.push Value.none)) eS2 rfl
  refine wpAny_updateSeq (hz := by seq_fits) eS3 rfl ?_
  have eS4 := Heap.get?_update_self (Obj.mapSeq (·.pop)) eS3 rfl
  obtain ⟨h4, eh4⟩ : ∃ h4, h4 = (h2.update s.heap.objs.size (Obj.mapSeq (·.push Value.none))).update s.heap.objs.size (Obj.mapSeq (·.pop)) := ⟨_, rfl⟩
  have up4 : ∀ b o, b ≠ s.heap.objs.size → s.heap.get? b = some o → h4.get? b = some o := fun b o nb e => by
    rw [eh4]
    exact (Heap.get?_update_other _ _ nb.symm).trans ((Heap.get?_update_other _ _ nb.symm).trans (up2 b o nb e))
  have n4 : h4.objs.size = s.heap.objs.size + 1 := by rw [eh4, Heap.size_update, Heap.size_update, n2]
  rw [← eh4] at eS4
  have z4 : IsZip h4 z TI TO .none := up4 _ _ (Nat.ne_of_lt lz) ez
  have Z4 : Zp k1 k2 z TI TO i1 i2 l1 l2 xs ys 0 h4 := by
    refine Z.but up4 ⟨Nat.ne_of_gt lz, Nat.ne_of_gt lTI, Nat.ne_of_gt lTO, Nat.ne_of_gt l1', Nat.ne_of_gt l2', Nat.ne_of_gt m1, Nat.ne_of_gt m2⟩ fun T b e => ?_
    have := ez.symm.trans e
    simp [rawInt] at this
  refine wpAny_pure ⟨plainId_quiet F.plain_extend_loop _, ?_⟩
  refine (show codeAny (model P w) A.in1 (.builtin "list.extend.loop" ⟨[.ref s.heap.objs.size, .ref z, .none], []⟩) _ { s with heap := (h2.update s.heap.objs.size (Obj.mapSeq (·.push Value.none))).update s.heap.objs.size (Obj.mapSeq (·.pop)) } from ?_)
  rw [← eh4]
  refine zl_loop (h0 := s.heap) (base := s.heap.objs.size + 1) (A := A.in1) hh D .none hn ex ey ⟨Nat.ne_of_gt lz, Nat.ne_of_gt lTI, Nat.ne_of_gt lTO, Nat.ne_of_gt l1', Nat.ne_of_gt l2', Nat.ne_of_gt m1, Nat.ne_of_gt m2⟩ ⟨Nat.lt_succ_self _, Nat.lt_succ_of_lt lz, Nat.lt_succ_of_lt lTO, Nat.lt_succ_of_lt l1', Nat.lt_succ_of_lt l2'⟩ n 0 h4 _ _ rfl (Nat.zero_le _) Z4 (fun T b e => ?_) (Nat.le_of_eq n4.symm) eS4 ⟨rfl, fun j hj => absurd hj (Nat.not_lt_zero _)⟩
    (fun b o _ nb _ _ _ _ e => up4 b o nb e) fun g acc c eg G up => ?_
  · have := z4.symm.trans e
    simp [rawInt] at this
  · exact ⟨rfl, f g acc c eg G fun b o b1 b2 b3 b4 e => up b o (Nat.lt_succ_of_lt (Heap.lt_size e)) (Nat.ne_of_lt (Heap.lt_size e)) b1 b2 b3 b4 e⟩
end
end Vf
namespace Vf
open PySem L2 PyProof.Rows PySem.Spec
def tkeys (ks : List Str) : List Key := ks.map Sum.inr
theorem tkeys_len (ks : List Str) : (tkeys ks).length = ks.length := List.length_map _
theorem tkeys_cons (k : Str) (ks : List Str) : tkeys (k :: ks) = Sum.inr k :: tkeys ks := rfl
theorem zp_arg {P : Program} {w : World} {k1 k2 : Kd} {z TI TO i1 i2 l1 l2 : Addr} {xs ys : Array Value} {n : Nat} (D : ZipApart z TI TO i1 i2 l1 l2) (ex : xs.size = n) (ey : ys.size = n) :
    PairArg P w "zip" z [z, TI, TO, i1, i2, l1, l2] [z, TO, i1, i2] n (fun i k v => xs[i]? = some k ∧ ys[i]? = some v) (fun h => Zp k1 k2 z TI TO i1 i2 l1 l2 xs ys 0 h ∧ IsZip h z TI TO .none) where
  type := fun s ok => ⟨_, ok.2, rfl⟩
  notDict := by decide
  keep := fun h g ok up => ⟨ok.1.keep up, up _ _ ok.2⟩
  there := fun h ok b hb => by
    obtain ⟨⟨eti, c1, c2, q1, q2, ez⟩, zz⟩ := ok
    simp only [List.mem_cons, List.not_mem_nil, or_false] at hb
    rcases hb with rfl | rfl | rfl | rfl | rfl | rfl | rfl
    · exact ⟨_, zz⟩
    · exact ⟨_, eti⟩
    · rcases ez with ⟨_, _, _, e⟩ | ⟨T, b, o, e, _⟩
      · exact ⟨_, e⟩
      · have := zz.symm.trans e
        simp [rawInt] at this
    · exact c1.ex
    · exact c2.ex
    · exact q1.ex
    · exact q2.ex
  sub := fun b hb => by
    simp only [List.mem_cons, List.not_mem_nil, or_false] at hb ⊢
    rcases hb with h | h | h | h <;> simp [h]
  noKeys := fun A s Q E hA ok f => getAttrOr_miss_zip ok.2 rfl rfl rfl zip_no_keys (by decide +kernel) hA f
  iter := fun A s d Q E hA ok hd nd f => by
    obtain ⟨Z, zz⟩ := ok
    simp only [List.mem_cons, List.not_mem_nil, or_false, not_or] at nd
    refine wpAny_pyIter_zip zz (f z [z, TO, i1, i2] (fun i h => Zp k1 k2 z TI TO i1 i2 l1 l2 xs ys i h ∧ ∀ T b, IsZipHeld h z TI TO T b → T ≠ d) s.heap s.toks ?_ ⟨Z, fun T b e => ?_⟩ (fun _ _ e => e) fun b hb => .inl hb)
    · exact {
        off := fun m => by
          simp only [List.mem_cons, List.not_mem_nil, or_false] at m
          rcases m with e | e | e | e
          · exact nd.1 e
          · exact nd.2.2.1 e
          · exact nd.2.2.2.1 e
          · exact nd.2.2.2.2.1 e
        frame := fun i h g st up => by
          obtain ⟨Z, hT⟩ := st
          refine ⟨Z.but up nd hT, fun T b e => hT T b ?_⟩
          obtain ⟨o, eo⟩ : ∃ o, h.get? z = some o := by
            rcases Z.z with ⟨e, _⟩ | ⟨T, b, _, e, _⟩
            · exact ⟨_, e⟩
            · exact ⟨_, e⟩
          have e2 := (up _ _ (Ne.symm nd.1) eo).symm.trans e
          rw [e2] at eo
          exact eo
        item := fun i s1 Q1 E1 hi st hd1 f1 => by
          obtain ⟨Z, hT⟩ := st
          refine zp_item D Z (Array.getElem?_eq_getElem (by omega)) (Array.getElem?_eq_getElem (by omega)) fun g Z2 hT2 pr sz up => ?_
          refine f1 _ _ _ g s1.toks ⟨Array.getElem?_eq_getElem (by omega), Array.getElem?_eq_getElem (by omega)⟩ (.inl ⟨_, pr, rfl, _, rfl⟩) ⟨Z2, fun T b e => ?_⟩ fun b o nb e => ?_
          · rcases hT2 T b e with q | ⟨b', e'⟩
            · rw [q]
              exact Nat.ne_of_gt hd1
            · exact hT T b' e'
          · simp only [List.mem_cons, List.not_mem_nil, or_false, not_or] at nb
            exact up b o nb.1 nb.2.1 nb.2.2.1 nb.2.2.2 e
        done := fun s1 Q1 E1 st f1 => by
          obtain ⟨Z, hT⟩ := st
          refine zp_end hA D Z (.inl (Array.getElem?_eq_none (by omega))) fun g up => f1 g s1.toks fun b o nb e => ?_
          simp only [List.mem_cons, List.not_mem_nil, or_false, not_or] at nb
          exact up b o nb.1 nb.2.1 nb.2.2.1 nb.2.2.2 e }
    · have := zz.symm.trans e
      simp [rawInt] at this
section
variable {X : Cx}
def Row (K : PySem.W.Frag) (H : Hp) (a : Addr) (xs : List V) : Prop := SqL K H a xs ∨ SqT K H a xs
theorem row_raw {pins : List (Addr × Obj)} {σ : L2.St} {H : Hp} {s : Shared} {a : Addr} {xs : List V} (I : Inv X pins σ H s) (h : Row X.K H a xs) : ∃ k its, Vals xs its ∧ Sq k s.heap a its.toArray ∧ xs.length ≤ sizeLine := by
  rcases h with h | h
  · obtain ⟨its, rv, p, hz⟩ := I.list h
    exact ⟨.lst, its, rv, p.isList, hz⟩
  · obtain ⟨its, rv, p, hz⟩ := I.tuple h
    exact ⟨.tup, its, rv, (show s.heap.IsTuple a its.toArray from p), hz⟩
/-- what stands behind zip(a, b) -/
structure ZipAt (X : Cx) (pins : List (Addr × Obj)) (σ : L2.St) (R : List V → List V → Hp → Prop) (v : Value) (s2 : Shared) : Prop where
  ex : ∃ (s1 : Shared) (H1 : Hp) (g : Heap) (k1 k2 : Kd) (z TI TO i1 i2 l1 l2 : Addr) (its us : List Value) (xs ys : List V), v = .ref z ∧ s2 = { s1 with heap := g } ∧ Inv X pins σ H1 s1 ∧ (∀ c o, s1.heap.get? c = some o → g.get? c = some o) ∧
    ZipApart z TI TO i1 i2 l1 l2 ∧ Zp k1 k2 z TI TO i1 i2 l1 l2 its.toArray us.toArray 0 g ∧ IsZip g z TI TO .none ∧ Vals xs its ∧ Vals ys us ∧ (Nat.le s1.heap.objs.size z ∧ Nat.le s1.heap.objs.size TO ∧ Nat.le s1.heap.objs.size i1 ∧ Nat.le s1.heap.objs.size i2) ∧
    Nat.le s1.heap.objs.size g.objs.size ∧ xs.length ≤ sizeLine ∧ R xs ys H1
def aZip (K : PySem.W.Frag) (ta : TA) (R : List V → List V → Hp → Prop) : L2.St → Hp → Prop := fun σ H => ta σ H fun vs H1 => ∃ a b xs ys, vs = [.ref a, .ref b] ∧ Row K H1 a xs ∧ Row K H1 b ys ∧ R xs ys H1
theorem ev_zip {e e2 : Expr} {ta : TA} {p pos : Pos} {pins : List (Addr × Obj)} {σ : L2.St} {H : Hp} {s : Shared} {R : List V → List V → Hp → Prop} (hg : Gl X "zip") (hm : X.mg "zip" = none) (ha : PA X [e, e2] ta) (I : Inv X pins σ H s) (h : aZip X.K ta R σ H)
    (hs : starEach [e, e2] X.env = (false, eval e X.env) :: starEach [e2] X.env := by rfl) (hpl : (backTo pos (starEach [e2] X.env)).any (·.1) = false := by rfl) :
    wpAny (model X.prog X.w) X.A (eval (.Call (.Name "zip" p) [e, e2] [] pos) X.env) (ZipAt X pins σ R) X.xe s := by
  refine Call_ (ld_blt I hg hm PyProof.Rows.boot_zip (PyProof.Rows.callWith_type1 (thn (ha.run pos pins s σ H _ I h) fun us s1 ⟨vs, H1, I1, r1, q1⟩ => ?_) hs hpl))
  obtain ⟨a, b, xs, ys, rfl, ra, rb, q⟩ := q1
  obtain ⟨u1, u2, rfl, r2, r3⟩ := vals2 r1
  cases r2
  cases r3
  obtain ⟨k1, its, v1, q1, z1⟩ := row_raw I1 ra
  obtain ⟨k2, us, v2, q2, z2⟩ := row_raw I1 rb
  refine call_zp q1 q2 fun g Z ez D n5 up => ⟨s1, H1, g, k1, k2, _, _, _, _, _, a, b, its, us, xs, ys, rfl, rfl, I1, up, D, Z, ez, v1, v2, ⟨Nat.le_add_right _ _, Nat.le_add_right _ _, Nat.le_refl _, Nat.le_add_right _ _⟩, ?_, z1, q⟩
  exact n5 ▸ Nat.le_add_right _ _
theorem strs_kv {us its : List Value} {ys : List V} {ks : List Str} (hl : ks.length = ys.length) (rk : Vals (ks.map V.str) its) (rv : Vals ys us) : KV ((tkeys ks).zip ys) ((tkeys ks).zip us) := by
  induction ks generalizing its us ys with
  | nil => exact .nil
  | cons k ks ih =>
    cases ys with
    | nil => simp at hl
    | cons y ys =>
      cases rv with
      | cons ry rv =>
        cases rk with
        | cons rk1 rk => exact .cons ⟨rfl, ry⟩ (ih (by simpa using hl) rk rv)
theorem zip_get {κ β : Type} {ks : List κ} {us : List β} (hl : ks.length = us.length) {i : Nat} {k : κ} {u : β} (e : ks[i]? = some k) (e2 : us[i]? = some u) : (ks.zip us)[i]? = some (k, u) := by
  rw [List.getElem?_zip_eq_some]
  exact ⟨e, e2⟩
def kvZip (ks : List Str) (ys : List V) : List (Key × V) := mergeK [] ((tkeys ks).zip ys)
theorem have_strs {P : Program} {w : World} {its us : List Value} {ks : List Str} (hl : ks.length = us.length) (rk : Vals (ks.map V.str) its) : PairsHave (mixKind P w) us.length (fun i k v => its.toArray[i]? = some k ∧ us.toArray[i]? = some v) ((tkeys ks).zip us) := by
  refine ⟨by rw [List.length_zip, tkeys_len]; omega, fun i key v ⟨e1, e2⟩ => ?_⟩
  have e1 : its[i]? = some key := by simpa using e1
  have e2 : us[i]? = some v := by simpa using e2
  have l1 := rk.length
  rw [List.length_map] at l1
  obtain ⟨k, ek⟩ : ∃ k, ks[i]? = some k := ⟨_, List.getElem?_eq_getElem (by have := (List.getElem?_eq_some_iff.mp e1).1; omega)⟩
  refine ⟨Sum.inr k, zip_get (by rw [tkeys_len]; exact hl) (by unfold tkeys; rw [List.getElem?_map, ek]; rfl) e2, ?_⟩
  obtain ⟨u, eu, ru⟩ := rk.get (x := V.str k) (i := i) (by rw [List.getElem?_map, ek]; rfl)
  rw [e1] at eu
  cases eu
  exact kV_is (k := Sum.inr k) (P := P) (w := w) ru
def tDz (K : PySem.W.Frag) (ta : TA) : TE := fun σ H Q => aZip K ta (fun xs ys H1 => ∃ ks : List Str, xs = ks.map V.str ∧ ks.length = ys.length ∧ ∀ p, H1 p = none → Q (.ref p) (upd H1 p (.dK (kvZip ks ys)))) σ H
theorem dict_ok {P : Program} {w : World} {H : Hp} {g : Heap} {D : Addr} {its us : List Value} {ys : List V} {ks : List Str} (big : Nat.lt sysModules D) (hl : ks.length = ys.length) (hz : ks.length ≤ sizeLine) (rk : Vals (ks.map V.str) its) (rv : Vals ys us)
    (hd : g.DictOf (mixKind P w) D (merged [] ((tkeys ks).zip us))) : ObjOk P w H g D (.dK (kvZip ks ys)) := by
  refine ⟨?_, beq_eq_false_iff_ne.mpr (Nat.ne_of_gt big), _, KV.merge (strs_kv hl rk rv) .nil, hd⟩
  refine Nat.le_trans (length_mergeK _ []) ?_
  rw [List.length_nil, Nat.zero_add, List.length_zip, tkeys_len]
  exact Nat.le_trans (Nat.min_le_left _ _) hz
/-- dict(zip(a, b)), a texts -/
theorem pe_dz {e e2 : Expr} {ta : TA} {p p2 pos pos2 : Pos} (hc : X.calm = true) (hg : Gl X "dict") (hm : X.mg "dict" = none) (hg2 : Gl X "zip") (hm2 : X.mg "zip" = none) (ha : PA X [e, e2] ta)
    (na : starEach [.Call (.Name "zip" p2) [e, e2] [] pos2] X.env = (false, eval (.Call (.Name "zip" p2) [e, e2] [] pos2) X.env) :: starEach [] X.env := by rfl)
    (hs : starEach [e, e2] X.env = (false, eval e X.env) :: starEach [e2] X.env := by rfl) (hpl : (backTo pos2 (starEach [e2] X.env)).any (·.1) = false := by rfl) :
    PE X (.Call (.Name "dict" p) [.Call (.Name "zip" p2) [e, e2] [] pos2] [] pos) (tDz X.K ta) := by
  refine ⟨fun pins s σ H Q I h => ?_⟩
  refine Call_ (ld_blt I hg hm boot_dict (PyProof.Rows.callWith_type1 (args_cons (thn (ev_zip hg2 hm2 ha I h hs hpl) fun v s2 Z => args_nil ?_) na) na))
  obtain ⟨s1, H1, g, k1, k2, z, TI, TO, i1, i2, l1, l2, its, us, xs, ys, rfl, rfl, I1, up, D, Z, ez, v1, v2, fr, big, hz, ks, rfl, hl, q⟩ := Z.ex
  have n1 : its.length = us.length := by
    have a1 := v1.length
    have a2 := v2.length
    rw [List.length_map] at a1
    omega
  rw [List.length_map] at hz
  refine call_dict_pairs (knd := mixKind X.prog X.w) (n := us.length) (zp_arg (k1 := k1) (k2 := k2) D (by simpa using n1) (by simp)) (I1.ok.hd hc) ⟨Z, ez⟩ (have_strs (by have := v2.length; omega) v1) (by have := v2.length; omega) fun g2 tk hd up2 => ?_
  refine ⟨.ref g.objs.size, upd H1 g.objs.size (.dK (kvZip ks ys)), I1.laid (t' := tk) (fun b o e => up2 b o (fun m => ?_) (up b o e)) big (dict_ok (Nat.lt_of_lt_of_le I1.big big) hl hz v1 v2 hd), rfl, q _ (I1.hok.fresh big)⟩
  have lt := Heap.lt_size e
  simp only [List.mem_cons, List.not_mem_nil, or_false] at m
  rcases m with m | m | m | m
  · exact Nat.lt_irrefl _ (Nat.lt_of_lt_of_le lt (m ▸ fr.1))
  · exact Nat.lt_irrefl _ (Nat.lt_of_lt_of_le lt (m ▸ fr.2.1))
  · exact Nat.lt_irrefl _ (Nat.lt_of_lt_of_le lt (m ▸ fr.2.2.1))
  · exact Nat.lt_irrefl _ (Nat.lt_of_lt_of_le lt (m ▸ fr.2.2.2))
/-- dict(list(zip(a, b))), a texts -/
theorem pe_dlz {e e2 : Expr} {ta : TA} {p p2 p3 pos pos2 pos3 : Pos} (hc : X.calm = true) (hg : Gl X "dict") (hm : X.mg "dict" = none) (hg3 : Gl X "list") (hm3 : X.mg "list" = none) (hg2 : Gl X "zip") (hm2 : X.mg "zip" = none) (ha : PA X [e, e2] ta)
    (na : starEach [.Call (.Name "list" p3) [.Call (.Name "zip" p2) [e, e2] [] pos2] [] pos3] X.env = (false, eval (.Call (.Name "list" p3) [.Call (.Name "zip" p2) [e, e2] [] pos2] [] pos3) X.env) :: starEach [] X.env := by rfl)
    (nb : starEach [.Call (.Name "zip" p2) [e, e2] [] pos2] X.env = (false, eval (.Call (.Name "zip" p2) [e, e2] [] pos2) X.env) :: starEach [] X.env := by rfl)
    (hs : starEach [e, e2] X.env = (false, eval e X.env) :: starEach [e2] X.env := by rfl) (hpl : (backTo pos2 (starEach [e2] X.env)).any (·.1) = false := by rfl) :
    PE X (.Call (.Name "dict" p) [.Call (.Name "list" p3) [.Call (.Name "zip" p2) [e, e2] [] pos2] [] pos3] [] pos) (tDz X.K ta) := by
  refine ⟨fun pins s σ H Q I h => ?_⟩
  refine Call_ (ld_blt I hg hm boot_dict (PyProof.Rows.callWith_type1 (args_cons ?_ na) na))
  refine Call_ (ld_blt I hg3 hm3 boot_list (PyProof.Rows.callWith_type1 (args_cons (thn (ev_zip hg2 hm2 ha I h hs hpl) fun v s2 Z => args_nil ?_) nb) nb))
  obtain ⟨s1, H1, g, k1, k2, z, TI, TO, i1, i2, l1, l2, its, us, xs, ys, rfl, rfl, I1, up, D, Z, ez, v1, v2, fr, big, hz, ks, rfl, hl, q⟩ := Z.ex
  have n1 : its.length = us.length := by
    have a1 := v1.length
    have a2 := v2.length
    rw [List.length_map] at a1
    omega
  have n2 := v2.length
  rw [List.length_map] at hz
  refine call_list_zp (s := { s1 with heap := g }) (n := us.length) (I1.ok.hd hc) D Z ez (by omega) (by simpa using n1) (by simp) fun g2 acc c eS G up2 => args_nil ?_
  have eS : g2.get? g.objs.size = some { cls := .type "list", dict := none, data := .seq acc c, slots := #[] } := eS
  have G : Got its.toArray us.toArray (g.objs.size + 1) us.length acc g2 := G
  have up2 : ∀ b o, b ≠ z → b ≠ TO → b ≠ i1 → b ≠ i2 → g.get? b = some o → g2.get? b = some o := up2
  have sz2 : Nat.lt g.objs.size g2.objs.size := Heap.lt_size eS
  let Ts : Nat → Addr := fun j => match acc[j]? with
    | some (.ref T) => T
    | _ => 0
  have pi : PairItems g2 acc Ts (its.zip us) := by
    refine ⟨by rw [G.size, List.length_zip, n1, Nat.min_self], fun j k v e => ?_⟩
    rw [List.getElem?_zip_eq_some] at e
    have hj : j < us.length := (List.getElem?_eq_some_iff.mp e.2).1
    obtain ⟨T, x, y, a1, a2, a3, a4, _⟩ := G.at_ j hj
    have b1 : its[j]? = some x := by simpa using a2
    have b2 : us[j]? = some y := by simpa using a3
    rw [e.1] at b1
    rw [e.2] at b2
    cases b1
    cases b2
    have eT : Ts j = T := by
      show (match acc[j]? with
        | some (.ref T) => T
        | _ => 0) = T
      rw [a1]
    rw [eT]
    exact ⟨a1, .inl ⟨_, a4, rfl, _, rfl⟩⟩
  have hv : PairsHave (mixKind X.prog X.w) (its.zip us).length (PairRel (its.zip us)) ((tkeys ks).zip us) := by
    have := have_strs (P := X.prog) (w := X.w) (us := us) (by omega) v1
    refine ⟨by rw [this.1, List.length_zip, n1, Nat.min_self], fun i k v e => this.2 i k v ?_⟩
    rw [PairRel, List.getElem?_zip_eq_some] at e
    exact ⟨by simpa using e.1, by simpa using e.2⟩
  refine call_dict_pairs (s := { s1 with heap := g2 }) (knd := mixKind X.prog X.w) (n := (its.zip us).length) (PairArg.list g.objs.size acc Ts (its.zip us)) (I1.ok.hd hc) ⟨⟨_, _, eS, rfl, rfl, rfl⟩, pi⟩ hv (by rw [List.length_zip]; omega) fun g3 tk hd up3 => ?_
  have big2 : Nat.le s1.heap.objs.size g2.objs.size := Nat.le_trans big (Nat.le_of_lt sz2)
  refine ⟨.ref g2.objs.size, upd H1 g2.objs.size (.dK (kvZip ks ys)), I1.laid (t' := tk) (fun b o e => up3 b o List.not_mem_nil (up2 b o ?_ ?_ ?_ ?_ (up b o e))) big2 (dict_ok (Nat.lt_of_lt_of_le I1.big big2) hl hz v1 v2 hd), rfl, q _ (I1.hok.fresh big2)⟩
  · exact fun m => Nat.lt_irrefl _ (Nat.lt_of_lt_of_le (Heap.lt_size e) (m ▸ fr.1))
  · exact fun m => Nat.lt_irrefl _ (Nat.lt_of_lt_of_le (Heap.lt_size e) (m ▸ fr.2.1))
  · exact fun m => Nat.lt_irrefl _ (Nat.lt_of_lt_of_le (Heap.lt_size e) (m ▸ fr.2.2.1))
  · exact fun m => Nat.lt_irrefl _ (Nat.lt_of_lt_of_le (Heap.lt_size e) (m ▸ fr.2.2.2))
end
/-- what such a dict has -/
theorem kv_zip {ks : List Str} {ys : List V} (hl : ks.length = ys.length) (nd : ks.Nodup) : kvZip ks ys = (tkeys ks).zip ys := by
  unfold kvZip
  have : ∀ (ks : List Str) (ys : List V) (acc : List (Key × V)), ks.Nodup → (∀ k ∈ ks, valV acc (Sum.inr k : Key) = none) → mergeK acc ((tkeys ks).zip ys) = acc ++ (tkeys ks).zip ys := by
    intro ks
    induction ks with
    | nil => intro ys acc _ _; simp [mergeK, tkeys]
    | cons k ks ih =>
      intro ys acc nd h
      cases ys with
      | nil => simp [mergeK]
      | cons y ys =>
        obtain ⟨n1, n2⟩ := List.nodup_cons.mp nd
        have e : mergeK acc ((tkeys (k :: ks)).zip (y :: ys)) = mergeK (putK acc (Sum.inr k) y) ((tkeys ks).zip ys) := rfl
        rw [e, ih ys _ n2 fun j hj => ?_, putK_new y (h k List.mem_cons_self)]
        · simp [tkeys]
        · rw [valV_put, if_neg (fun z => by cases z; exact n1 hj)]
          exact h j (List.mem_cons_of_mem _ hj)
  rw [this ks ys [] nd fun _ _ => rfl, List.nil_append]
theorem kv_at {ks : List Str} {ys : List V} (hl : ks.length = ys.length) (nd : ks.Nodup) {i : Nat} {k : Str} {y : V} (e : ks[i]? = some k) (e2 : ys[i]? = some y) : valV (kvZip ks ys) (Sum.inr k : Key) = some y := by
  rw [kv_zip hl nd]
  induction ks generalizing ys i with
  | nil => simp at e
  | cons k0 ks ih =>
    cases ys with
    | nil => simp at e2
    | cons y0 ys =>
      obtain ⟨n1, n2⟩ := List.nodup_cons.mp nd
      rw [tkeys_cons, List.zip_cons_cons]
      cases i with
      | zero =>
        cases e
        cases e2
        exact valV_pos rfl
      | succ i =>
        have e' : ks[i]? = some k := by simpa using e
        rw [valV_neg (fun z => by cases z; exact n1 (List.mem_of_getElem? e'))]
        exact ih (by simpa using hl) n2 e' (by simpa using e2)
end Vf
namespace Vf
open PySem L2 PyProof.Rows PySem.Spec PySem.Froz
/-! ## set(whole numbers) -/
section
variable {P : Program} {w : World} {A : Around}
theorem set_of_ints {E : Value → Shared → Prop} {s : Shared} {l : Addr} {items : Array Value} {xs : List Int} {Q : Value → Shared → Prop} (hh : A.handled = none) (hl : s.heap.IsList l items) (hx : IntsAre items.toList xs) (hb : xs.length + 1 < scanBound)
    (h : ∀ (h' : Heap) (tk : Nat), (∃ c, SetR w h' s.heap.objs.size (fun j => decide (j ∈ xs)) c ∧ c ≤ xs.length) → (∀ b o, s.heap.get? b = some o → h'.get? b = some o) → Q (.ref s.heap.objs.size) { s with heap := h', toks := tk }) :
    wpAny (model P w) A (call (.type "set") [.ref l]) Q E s := by
  obtain ⟨c, tl, mro⟩ := PySem.F.called_set.mro
  have made := PySem.F.called_set.made
  have sub := PySem.F.called_set.sub
  refine wpAny_call (codeAny_of_tree ?_)
  show wpAny (model P w) _ (callAny (.type "set") _) _ _ s
  refine wpAny_pure ⟨Code.quiet_builtin _ (by decide +kernel), codeAny_builtin PySem.F.entry_type_call ?_⟩
  rw [Around.under_plain (weight_type_call_type "set" [.ref l] []) rfl]
  have no1 := PySem.F.called_set.notType
  have no2 := PySem.F.called_set.canCreate
  have ok := PySem.F.typeCall_set_1 (.ref l)
  repeat any_goals first | assumption | wp_step
  generalize hO : ({ cls := .type "set", dict := none, data := .set #[] 0 (.fresh 0 0 (!w.params.followText "set-order")) } : Obj) = O
  refine codeAny_mono (code_set_led1 (.ref l) (E := E) (Q₁ := fun obj s1 => obj = .ref s.heap.objs.size ∧ s1 = { s with heap := s.heap.push O }) ⟨rfl, by rw [hO]⟩) fun r s1 hr => ?_
  rcases r with e | fl
  · exact hr
  match fl, hr with
  | .ret obj, hr =>
    obtain ⟨rfl, rfl⟩ := hr
    have hc : O.cls = .type "set" := by rw [← hO]
    have hf : O.isFreed = false := by rw [← hO]; rfl
    have hS : (s.heap.push O).get? s.heap.objs.size = some O := Heap.get?_push_size _ hf
    have hT : Shared.TypeIs { s with heap := s.heap.push O } (.ref s.heap.objs.size) "set" := ⟨O, hS, hc⟩
    have li := PySem.F.called_set.init.lookup
    have bi := PySem.F.called_set.init.bind (.ref s.heap.objs.size)
    repeat any_goals first | assumption | wp_step
    refine codeAny_mono (codeAny_call_builtin (R := wants (fun r s2 => r = .none ∧ ∃ h' tk, s2 = { s with heap := h', toks := tk } ∧ (∃ c, SetR w h' s.heap.objs.size (fun j => decide (j ∈ xs)) c ∧ c ≤ xs.length) ∧ ∀ b o, s.heap.get? b = some o → h'.get? b = some o) E)
      PySem.F.called_set.init.plain PySem.F.entry_set_init (check_set_init_1 hT ?_)) fun r2 s2 hr2 => ?_
    · have hl1 : (s.heap.push O).IsList l items := hl.push _
      obtain ⟨⟨lc, ld, lD, ls⟩, ho, c1, nl, d1⟩ := id hl
      simp only at c1 d1
      subst c1 d1
      have ho1 := Heap.get?_push_of_some O ho
      have b1 := PySem.F.sub_list_set
      have b2 := PySem.F.sub_list_frozenset
      have b3 : (Value.type "list" == Value.type "dict") = false := by decide
      subst hO
      unfold Builtin.«set.__init__»
      unfold noKeywords Builtin.Frozenset.updateFrom
      generalize hp : pyIter = PI
      wp_walk
      subst hp
      generalize hO : ({ cls := .type "set", dict := none, data := .set #[] 0 (.fresh 0 0 (!w.params.followText "set-order")) } : Obj) = O at *
      refine wpAny_pyIter_list (items := items) hl1 ?_
      refine wpAny_bind (wpAny_runValue ?_)
      have ll : l < s.heap.objs.size := Heap.lt_size ho
      have zs : (s.heap.push O).objs.size = s.heap.objs.size + 1 := Heap.size_push ..
      have n1 : l ≠ (s.heap.push O).objs.size := Nat.ne_of_lt (by rw [zs]; exact Nat.lt_succ_of_lt ll)
      have n2 : s.heap.objs.size ∉ [(s.heap.push O).objs.size, l] := by
        simp only [List.mem_cons, List.not_mem_nil, or_false, not_or]
        exact ⟨Nat.ne_of_lt (by rw [zs]; exact Nat.lt_succ_self _), Nat.ne_of_gt ll⟩
      have len : xs.length = items.size := by rw [← IntsAre.length hx, Array.length_toList]
      have hv : ∀ (i : Nat) (v : Value), items[i]? = some v → ∃ k t, xs[i]? = some k ∧ v = .int k t := fun i v hv => by
        have hi : i < xs.length := by rw [len]; exact (Array.getElem?_eq_some_iff.mp hv).1
        obtain ⟨t, e⟩ := PyProof.Rows.IntsAre.int_at hx i v (by rw [Array.getElem?_toList]; exact hv)
        refine ⟨xs[i], t, List.getElem?_eq_getElem hi, ?_⟩
        rw [e, List.getD_eq_getElem?_getD, List.getElem?_eq_getElem hi]
        rfl
      refine set_update_ints ((Walks.list (show A.in1.in1.in1.handled = none by simp [hh]) _ l n1 items).toS) s.heap.objs.size n2 xs len.symm hb hv (items.size - 0) 0 _ rfl (Nat.zero_le _)
        ⟨⟨_, Heap.get?_push_size _ rfl, rfl, rfl⟩, hl1.push _⟩ ⟨0, Nat.zero_le _, setR_new_at (by rw [Heap.get?_push_of_some _ hS, hO])⟩ fun s' c hm cn r => ?_
      obtain ⟨h', g', d', tk', os'⟩ := s'
      obtain rfl : g' = s.gens := hm.gens
      obtain rfl : d' = s.drawn := hm.drawn
      obtain rfl : os' = s.os := hm.os
      show wpAny _ _ _ _ _ _
      refine wpAny_pure ?_
      show wpAny _ _ (ret Value.none) _ _ _
      refine wpAny_pure ⟨rfl, h', tk', rfl, ⟨c, r, Nat.le_trans cn (Nat.le_of_eq len.symm)⟩, fun b o e => ?_⟩
      have lb := Heap.lt_size e
      refine hm.heap b o ?_ (Heap.get?_push_of_some _ (Heap.get?_push_of_some _ e))
      simp only [List.mem_cons, List.not_mem_nil, or_false, not_or]
      exact ⟨Nat.ne_of_lt lb, Nat.ne_of_lt (by rw [zs]; exact Nat.lt_succ_of_lt lb)⟩
    · rcases r2 with e | fl2
      · exact hr2
      · match fl2, hr2 with
        | .ret r3, hr2 =>
          obtain ⟨rfl, h', tk, rfl, q1, q2⟩ := hr2
          repeat any_goals first | assumption | wp_step
          exact h _ _ q1 q2
        | .next, hr2 => exact hr2.elim
        | .brk, hr2 => exact hr2.elim
        | .cont, hr2 => exact hr2.elim
  | .next, hr => exact hr.elim
  | .brk, hr => exact hr.elim
  | .cont, hr => exact hr.elim
end
theorem nd_le {α : Type} [DecidableEq α] : ∀ {l m : List α}, l.Nodup → (∀ x ∈ l, x ∈ m) → l.length ≤ m.length
  | [], _, _, _ => Nat.zero_le _
  | x :: l, m, n, h => by
    obtain ⟨n1, n2⟩ := List.nodup_cons.mp n
    have hx := h x List.mem_cons_self
    have e := List.length_erase_of_mem hx
    have p := List.length_pos_of_mem hx
    have i := nd_le (m := m.erase x) n2 fun y hy => (List.mem_erase_of_ne (fun z : y = x => n1 (z ▸ hy))).mpr (h y (List.mem_cons_of_mem _ hy))
    rw [List.length_cons]
    omega
/-- a set has no more than there are -/
theorem set_few {w : World} {h : Heap} {a : Addr} {S : Int → Bool} {n : Nat} (R : SetR w h a S n) {l : List Int} (hl : ∀ k, S k = true → k ∈ l) : n ≤ l.length := by
  obtain ⟨o, es, ep, t, _, _, _, _, nd, m, _, _, e, _⟩ := R
  rw [← e, ← Array.length_toList, ← List.length_map (f := keyOf)]
  exact nd_le nd fun k hk => hl k ((m k).mpr hk)
def rSetI (K : PySem.W.Frag) (w : World) : List V → Hp → VK → Prop := fun xs H Q => ∃ (a : Addr) (ns : List Int), xs = [V.ref a] ∧ SqL K H a (ns.map V.int) ∧ ns.length + 1 < scanBound ∧ (∀ x ∈ ns, -3 ≤ x ∧ x < 16) ∧
  ∀ p n, H p = none → n ≤ 19 → Q (.ref p) (upd H p (SetO w p (fun j => decide (j ∈ ns)) n))
theorem cr_setI {X : Cx} (hc : X.calm = true) : CallR X (.type "set") (rSetI X.K X.w) := by
  intro pins s σ H xs us Q I r h
  obtain ⟨a, ns, rfl, hl, hb, hr, q⟩ := h
  rw [Vals.ref1 r]
  obtain ⟨its, rv, pl, hz⟩ := I.list hl
  refine set_of_ints (P := X.prog) (w := X.w) (I.ok.hd hc) pl.isList (by simpa using rv.ints) hb fun h' tk ⟨c, R, _⟩ k => ?_
  have n19 : c ≤ 19 := Nat.le_trans (set_few R (l := univ) fun k hk => mem_univ.mpr (hr k (of_decide_eq_true hk))) (by decide +kernel)
  exact ⟨.ref _, _, I.laid (t' := tk) k (Nat.le_refl _) (setO_new R), rfl, q _ c (I.hok.fresh (Nat.le_refl _)) n19⟩
theorem aSetI {X : Cx} {K : PySem.W.Frag} {w : World} (e : X.K = K) (e2 : X.w = w) (hc : X.calm = true) : CallR X (.type "set") (rSetI K w) := e ▸ e2 ▸ cr_setI hc
theorem aSortedSetI {X : Cx} {w : World} (e2 : X.w = w) (hc : X.calm = true) : CallR X (.builtin "sorted") (rSortedSet w) := e2 ▸ cr_sortedSet hc
theorem aNotInD {X : Cx} {K : PySem.W.Frag} (e : X.K = K) (hu : X.A.units + 65 < cLine) : OpR X (compareOp .NotIn) (rNotInD K) := e ▸ op_notInD hu
theorem aUnl {X : Cx} {K : PySem.W.Frag} (h : X.K = K) {es : List Expr} {k : Nat} {t : TGs} {n : Nat} {pos : Pos} (hc : X.calm = true) (hp : PGs X es t)
    (hn : (assignEach es X.env).length = n := by rfl) (hst : (assignEach es X.env).findIdx? (·.1) = none := by rfl) : PG X (.Tuple es k pos) (gUnl K n t) := h ▸ pg_unl hc hp hn hst
end Vf
namespace Vf
open PySem L2 PyProof.Rows PySem.Spec
/-! ## a def that may be called by keywords, its defaults filling up -/
structure CalN (P : Program) (w : World) (K : PySem.W.Frag) (mg : Str → Option Value) (base : Heap) (x : Str) (ps ks : List Str) (n : Nat) (gV : List V → List V → List V) (k : Nat) (sp : Sp) : Prop where
  ex : ∃ f fd gv, FnG P w K mg base CX0 k f fd ps sp ∧ mg x = some (.ref f) ∧ PySem.W.keepIn K (.ref f) = true ∧ KBn K fd ps n ks gv gV
def tCalN (n m : Nat) (gV : List V → List V → List V) (sp : Sp) (t tk : TA) : TE := fun σ H Q => t σ H fun vs H1 => tk σ H1 fun zs H2 => vs.length = n ∧ zs.length = m ∧ sp (gV vs zs) H2 Q E0
section
variable {X : Cx} {k : Nat} {ps ks : List Str} {sp : Sp} {x : Str} {p pos kpos : Pos} {e : Expr} {es : List Expr} {kws : List Keyword} {t tk : TA} {gV : List V → List V → List V} {n : Nat}
theorem pe_calN0 (c : CalN X.prog X.w X.K X.mg X.base x ps ks n gV k sp) (hgd : X.A.guards = some []) (hr : Room k X.A) (hg : Gl X x) (hkw : PK X kws tk)
    (hal : (backToKw pos (keywordEach kws X.env)).all (·.1.isSome) = true := by rfl) (hks : (backToKw pos (keywordEach kws X.env)).filterMap (·.1) = ks := by rfl) (hdb : (x == ("__debug__" : Str)) = false := by decide)
    (hpl : ((backTo pos (starEach [] X.env)).any (·.1) || (backToKw pos (keywordEach kws X.env)).any (·.1.isNone)) = false := by rfl) : PE X (.Call (.Name x p) [] kws pos) (tCalN n ks.length gV sp tNil tk) := by
  obtain ⟨f, fd, gv, F, gl, kp, bi⟩ := c.ex
  refine ⟨fun pins s σ H Q I h => wpAny_Call_Name_kw (ld_glob I hg gl ?_ hdb)⟩
  refine PySem.W.callWith_KW0 (h₀ := X.base) I.ok.mod.kin kp hal (thn (hkw.run pos pins s σ H _ I h) fun ws s1 ⟨zs, H1, I1, rz, n0, m0, q⟩ => ⟨I1.kIn, ?_⟩) hpl
  rw [hks]
  exact wpAny_call (go_cal F hgd hr I1 (bi.to s1 [] ws I1.kIn n0 (by rw [← rz.length]; exact m0)) (bi.rel .nil rz) q)
theorem pe_calN (c : CalN X.prog X.w X.K X.mg X.base x ps ks n gV k sp) (hgd : X.A.guards = some []) (hr : Room k X.A) (hg : Gl X x) (ha : PA X (e :: es) t) (hkw : PK X kws tk)
    (hal : (backToKw pos (keywordEach kws X.env)).all (·.1.isSome) = true := by rfl) (hks : (backToKw pos (keywordEach kws X.env)).filterMap (·.1) = ks := by rfl) (hdb : (x == ("__debug__" : Str)) = false := by decide)
    (he : starEach (e :: es) X.env = (false, eval e X.env) :: starEach es X.env := by rfl)
    (hpl : ((backTo pos (starEach (e :: es) X.env)).any (·.1) || (backToKw pos (keywordEach kws X.env)).any (·.1.isNone)) = false := by rfl) : PE X (.Call (.Name x p) (e :: es) kws pos) (tCalN n ks.length gV sp t tk) := by
  obtain ⟨f, fd, gv, F, gl, kp, bi⟩ := c.ex
  refine ⟨fun pins s σ H Q I h => wpAny_Call_Name_kw (ld_glob I hg gl ?_ hdb)⟩
  refine PySem.W.callWith_KW (h₀ := X.base) I.ok.mod.kin kp hal (thn (ha.run pos pins s σ H _ I h) fun us s1 ⟨vs, H1, I1, r1, q1⟩ => ?_) hpl he
  refine thn (hkw.run pos pins s1 σ H1 _ I1 q1) fun ws s2 ⟨zs, H2, I2, rz, n0, m0, q⟩ => ⟨I2.kIn, ?_⟩
  rw [hks]
  exact wpAny_call (go_cal F hgd hr I2 (bi.to s2 us ws I2.kIn (by rw [← r1.length]; exact n0) (by rw [← rz.length]; exact m0)) (bi.rel r1 rz) q)
end
/-- a def with two keyword-only values as the top has left it: an empty tuple and a whole number -/
def DefAtKK (K : PySem.W.Frag) (x : Str) (st : Stmt) (y z : Str) (i : Int) : Prop := ∃ (f : Addr) (oc : Value) (od : Option Addr) (kD : Addr) (doc pm : Value) (an : Option Addr) (cdv ct : Value) (osl : Array (Option Value)) (a : Addr) (t : Tok) (ad : Option Addr) (n : Nat) (asl : Array (Option Value)),
  PySem.W.nsIn K mainGlobals x = some (some (.ref f)) ∧ K.lookup f = some ⟨oc, od, .func (PySem.W.fnOf x x (defArgs st) (defBody st) (defScope st) .none (.ref kD) doc pm an cdv ct), osl⟩ ∧ PySem.W.codeIn K cdv x = true ∧ PySem.W.keepIn K (.ref f) = true ∧
  PySem.W.nsIn K kD y = some (some (.ref a)) ∧ K.lookup a = some ⟨.type "tuple", ad, .seq #[] n, asl⟩ ∧ PySem.W.nsIn K kD z = some (some (.int i t))
theorem DefAtKK.mk {K : PySem.W.Frag} {x : Str} {st : Stmt} {y z : Str} {i : Int} {f : Addr} {oc : Value} {od : Option Addr} {kD : Addr} {doc pm : Value} {an : Option Addr} {cdv ct : Value} {osl : Array (Option Value)} {a : Addr} {t : Tok} {ad : Option Addr} {n : Nat} {asl : Array (Option Value)}
    (h1 : PySem.W.nsIn K mainGlobals x = some (some (.ref f))) (l : K.lookup f = some ⟨oc, od, .func (PySem.W.fnOf x x (defArgs st) (defBody st) (defScope st) .none (.ref kD) doc pm an cdv ct), osl⟩) (c : PySem.W.codeIn K cdv x = true) (k : PySem.W.keepIn K (.ref f) = true)
    (v : PySem.W.nsIn K kD y = some (some (.ref a))) (e : K.lookup a = some ⟨.type "tuple", ad, .seq #[] n, asl⟩) (u : PySem.W.nsIn K kD z = some (some (.int i t))) : DefAtKK K x st y z i :=
  ⟨f, oc, od, kD, doc, pm, an, cdv, ct, osl, a, t, ad, n, asl, h1, l, c, k, v, e, u⟩
theorem DefAtKK.df {K : PySem.W.Frag} {x : Str} {st : Stmt} {y z : Str} {i : Int} {h : Heap} {mg : Str → Option Value} (X : K.In h) (G : h.Ns mainGlobals mg) (A : DefAtKK K x st y z i) : ∃ f kD doc pm an cdv ct a, FunD K x x (defArgs st) (defBody st) (defScope st) [] [(y, .ref a), (z, .int i)] f (PySem.W.fnOf x x (defArgs st) (defBody st) (defScope st) .none (.ref kD) doc pm an cdv ct) ∧ mg x = some (.ref f) ∧ ∀ H, SqT K H a [] := by
  obtain ⟨f, oc, od, kD, doc, pm, an, cdv, ct, osl, a, t, ad, n, asl, h1, l, c, k, v, e, u⟩ := A
  refine ⟨f, kD, doc, pm, an, cdv, ct, a, ⟨⟨oc, od, .none, .ref kD, doc, pm, an, cdv, ct, osl, rfl, l, c, .inl ⟨rfl, rfl⟩, .inr ⟨kD, rfl, fun q hq => ?_⟩⟩, k⟩, PySem.W.mg_of X G h1, fun H => .inr ⟨_, #[], n, e, rfl, rfl, Nat.zero_le _, .nil⟩⟩
  simp only [List.mem_cons, List.not_mem_nil, or_false] at hq
  rcases hq with rfl | rfl
  · exact ⟨_, v, rfl⟩
  · exact ⟨_, u, t, rfl⟩
end Vf
namespace Vf
open PySem L2 PyProof.Rows PySem.Spec
/-! ## zip of one thing, a list or a tuple -/
/-- a tuple of one -/
abbrev One (h : Heap) (T : Addr) (a : Value) : Prop := h.get? T = some { cls := .type "tuple", data := .seq #[a] }
structure Ap1 (z TI TO i1 l1 : Addr) : Prop where
  TIz : TI ≠ z
  TOz : TO ≠ z
  TITO : TI ≠ TO
  TIi1 : TI ≠ i1
  i1z : i1 ≠ z
  l1z : l1 ≠ z
  TOi1 : TO ≠ i1
  l1TO : l1 ≠ TO
  l1i1 : l1 ≠ i1
structure Zo (k1 : Kd) (z TI TO i1 l1 : Addr) (xs : Array Value) (i : Nat) (h : Heap) : Prop where
  ti : One h TI (.ref i1)
  c1 : Cur k1 h i1 l1 i
  s1 : Sq k1 h l1 xs
  z : (IsZip h z TI TO .none ∧ ∃ a, One h TO a) ∨ ∃ T f o, IsZipHeld h z TI TO T f ∧ h.get? T = some o ∧ T ≠ z ∧ T ≠ i1
section
variable {P : Program} {w : World} {A : Around} {E : Value → Shared → Prop} {s : Shared} {k1 : Kd} {z TI TO i1 l1 : Addr} {xs : Array Value} {i : Nat} {x : Value}
theorem upd_one {T : Addr} {a x : Value} {k : Nat} {Q : Unit → Shared → Prop} (hT : One s.heap T a)
    (h : ∀ h', h'.get? T = some { cls := .type "tuple", data := .seq ((#[a] : Array Value).setIfInBounds k x) } → Heap.SameBut T s.heap h' → Q () { s with heap := h' }) : wpAny (model P w) A (updateSeq T (·.setIfInBounds k x)) Q E s := by
  refine wpAny_updateSeq hT rfl (h _ ?_ (.update ..))
  rw [Heap.get?_update_self _ hT rfl]
  simp [Obj.mapSeq]
theorem Zo.but {h g : Heap} {d : Addr} (Z : Zo k1 z TI TO i1 l1 xs i h) (e : ∀ b o, b ≠ d → h.get? b = some o → g.get? b = some o) (n : d ≠ z ∧ d ≠ TI ∧ d ≠ TO ∧ d ≠ i1 ∧ d ≠ l1)
    (nT : ∀ T f, IsZipHeld h z TI TO T f → T ≠ d) : Zo k1 z TI TO i1 l1 xs i g where
  ti := e _ _ n.2.1.symm Z.ti
  c1 := Z.c1.at_ fun o => e _ o n.2.2.2.1.symm
  s1 := Z.s1.at_ fun o => e _ o n.2.2.2.2.symm
  z := by
    rcases Z.z with ⟨a, b, d⟩ | ⟨T, f, o, a, b, c⟩
    · exact .inl ⟨e _ _ n.1.symm a, b, e _ _ n.2.2.1.symm d⟩
    · exact .inr ⟨T, f, o, e _ _ n.1.symm a, e _ _ (nT T f a) b, c⟩
theorem free_one {a : Value} {Q : Value → Shared → Prop} (D : Ap1 z TI TO i1 l1) (ez : IsZip s.heap z TI TO .none) (ei : One s.heap TI (.ref i1)) (eo : One s.heap TO a)
    (c1 : Cur k1 s.heap i1 l1 i) (q1 : Sq k1 s.heap l1 xs) (ex : xs[i]? = some x)
    (f : ∀ g, IsZip g z TI TO (rawInt s.heap.objs.size) → Cur k1 g i1 l1 (i + 1) → One g s.heap.objs.size x → g.objs.size = s.heap.objs.size + 1 →
      (∀ c o, c ≠ z → c ≠ TO → c ≠ i1 → s.heap.get? c = some o → g.get? c = some o) → Q (.ref s.heap.objs.size) { s with heap := g }) :
    wpAny (model P w) A (Builtin.«zip.__next__» ⟨[.ref z], []⟩) (fun fin t => ∃ v, fin = .done (.ret v) ∧ Q v t) E s := by
  refine (show wpAny (model P w) A (field (.ref z) 2 >>= _) _ E s from ?_)
  refine wpAny_bind (wpAny_field ez rfl (x := .bool false) rfl ?_)
  refine (show wpAny (model P w) A (field (.ref z) 3 >>= _) _ E s from ?_)
  refine wpAny_bind (wpAny_field ez rfl (x := .ref TI) rfl (wpAny_bind (wpAny_seqItems ei rfl ?_)))
  refine (show wpAny (model P w) A (Builtin.SmallTypes.ownedTupleIsFree (.ref z) >>= _) _ E s from wpAny_bind ?_)
  rw [Builtin.SmallTypes.ownedTupleIsFree]
  refine wpAny_bind (wpAny_field ez rfl (x := .none) rfl (wpAny_pure ?_))
  rw [if_pos rfl]
  refine wpAny_bind (wpAny_rule (wpAny_bind (wpAny_field ez rfl (x := .ref TO) rfl ?_)))
  refine wpAny_bind (wpAny_setField_rec ez (by simp) fun g1 z1 b1 => wpAny_bind ?_)
  have z1 : IsZip g1 z TI TO .ellipsis := z1
  simp only [List.zipIdx_cons, List.zipIdx_nil, List.forIn_cons, List.forIn_nil]
  refine wpAny_bind (wpAny_bind (wpAny_onRaise ?_))
  refine (show wpAny (model P w) A (Builtin.SmallTypes.nextOf (.ref i1) >>= _) _ _ _ from wpAny_bind ?_)
  refine nx_item (c1.at_ fun o => b1.extBut _ o D.i1z) (q1.at_ fun o => b1.extBut _ o D.l1z) ex fun g2 d1 b2 => wpAny_pure ?_
  have o2 : One g2 TO a := b2.extBut _ _ D.TOi1 (b1.extBut _ _ D.TOz eo)
  refine wpAny_bind (wpAny_seqItems o2 rfl (wpAny_bind (upd_one o2 fun g5 o5 b5 => ?_)))
  have o5 : One g5 TO x := o5
  refine wpAny_bind (wpAny_letGo (wpAny_pure (wpAny_pure (wpAny_bind (wpAny_seqItems o5 rfl (wpAny_bind (wpAny_newTuple ?_)))))))
  have n5 : g5.objs.size = s.heap.objs.size := by rw [b5.1, b2.1, b1.1]
  have z5 : IsZip g5 z TI TO .ellipsis := b5.extBut _ _ D.TOz.symm (b2.extBut _ _ D.i1z.symm z1)
  have up5 : ∀ c o, c ≠ z → c ≠ TO → c ≠ i1 → s.heap.get? c = some o → g5.get? c = some o := fun c o m1 m2 m3 e => b5.extBut _ _ m2 (b2.extBut _ _ m3 (b1.extBut _ _ m1 e))
  have e1 : Cur k1 g5 i1 l1 (i + 1) := d1.at_ fun o => b5.extBut _ o D.TOi1.symm
  have lz : z < g5.objs.size := Heap.lt_size z5
  refine (show wpAny (model P w) A (Builtin.SmallTypes.ownedTupleHandOut (.ref z) (.ref g5.objs.size) >>= _) _ _ _ from wpAny_bind ?_)
  rw [Builtin.SmallTypes.ownedTupleHandOut]
  have z6 : IsZip (g5.push { cls := .type "tuple", data := .seq #[x] }) z TI TO .ellipsis := Heap.get?_push_of_some _ z5
  refine wpAny_bind (wpAny_setField_rec z6 (by simp) fun g7 z7 b7 => ?_)
  have z7 : IsZip g7 z TI TO (rawInt g5.objs.size) := z7
  refine wpAny_setField_rec z7 (by simp) fun g8 z8 b8 => ?_
  have z8 : IsZip g8 z TI TO (rawInt g5.objs.size) := z8
  have up8 : ∀ c o, c ≠ z → g5.get? c = some o → g8.get? c = some o := fun c o m e => b8.extBut _ _ m (b7.extBut _ _ m (Heap.get?_push_of_some _ e))
  have t8 : One g8 g5.objs.size x := b8.extBut _ _ (Nat.ne_of_gt lz) (b7.extBut _ _ (Nat.ne_of_gt lz) (Heap.get?_push_size _ rfl))
  have n8 : g8.objs.size = g5.objs.size + 1 := by rw [b8.1, b7.1, Heap.size_push]
  rw [n5] at z8 t8 n8
  refine wpAny_pure ⟨_, rfl, (show Q (.ref g5.objs.size) _ from ?_)⟩
  rw [n5]
  exact f g8 z8 (e1.at_ fun o => up8 _ o D.i1z) t8 n8 fun c o m1 m2 m3 e => up8 c o m1 (up5 c o m1 m2 m3 e)
theorem held_one {T : Addr} {b : Bool} {oT : Obj} {Q : Value → Shared → Prop} (D : Ap1 z TI TO i1 l1) (ez : IsZipHeld s.heap z TI TO T b) (eT : s.heap.get? T = some oT) (ei : One s.heap TI (.ref i1))
    (c1 : Cur k1 s.heap i1 l1 i) (q1 : Sq k1 s.heap l1 xs) (ex : xs[i]? = some x)
    (f : ∀ g, IsZipHeld g z TI TO T true → Cur k1 g i1 l1 (i + 1) → One g s.heap.objs.size x → g.objs.size = s.heap.objs.size + 1 →
      (∀ c o, c ≠ z → c ≠ i1 → s.heap.get? c = some o → g.get? c = some o) → Q (.ref s.heap.objs.size) { s with heap := g }) :
    wpAny (model P w) A (Builtin.«zip.__next__» ⟨[.ref z], []⟩) (fun fin t => ∃ v, fin = .done (.ret v) ∧ Q v t) E s := by
  refine (show wpAny (model P w) A (field (.ref z) 2 >>= _) _ E s from ?_)
  refine wpAny_bind (wpAny_field ez rfl (x := .bool false) rfl ?_)
  refine (show wpAny (model P w) A (field (.ref z) 3 >>= _) _ E s from ?_)
  refine wpAny_bind (wpAny_field ez rfl (x := .ref TI) rfl (wpAny_bind (wpAny_seqItems ei rfl ?_)))
  refine (show wpAny (model P w) A (Builtin.SmallTypes.ownedTupleIsFree (.ref z) >>= _) _ E s from wpAny_bind ?_)
  refine wpAny_tupleHeld_zip ez eT fun g1 z1 b1 => ?_
  rw [if_neg (show ¬ (false = true) from Bool.false_ne_true)]
  refine wpAny_bind ?_
  rw [← Array.forIn_toList]
  simp only [List.forIn_cons, List.forIn_nil]
  refine wpAny_bind (wpAny_bind (wpAny_holding ?_))
  refine (show wpAny (model P w) A (Builtin.SmallTypes.nextOf (.ref i1) >>= _) _ _ _ from wpAny_bind ?_)
  refine nx_item (s := { s with heap := g1 }) (c1.at_ fun o => b1.extBut _ o D.i1z) (q1.at_ fun o => b1.extBut _ o D.l1z) ex fun g3 d1 b3 => wpAny_pure (wpAny_pure (wpAny_pure ?_))
  refine (show wpAny (model P w) A (newTuple [x] >>= _) _ _ _ from wpAny_bind (wpAny_newTuple ?_))
  have n3 : g3.objs.size = s.heap.objs.size := by rw [b3.1, b1.1]
  have z3 : IsZipHeld g3 z TI TO T true := b3.extBut _ _ D.i1z.symm z1
  refine wpAny_pure ⟨_, rfl, (show Q (.ref g3.objs.size) _ from ?_)⟩
  have t4 : One (g3.push { cls := .type "tuple", data := .seq #[x] }) g3.objs.size x := Heap.get?_push_size _ rfl
  have n4 : (g3.push { cls := .type "tuple", data := .seq #[x] }).objs.size = g3.objs.size + 1 := Heap.size_push ..
  rw [n3] at t4 n4 ⊢
  exact f _ (Heap.get?_push_of_some _ z3) (d1.at_ fun o e => Heap.get?_push_of_some _ e) t4 n4 fun c o m1 m2 e => Heap.get?_push_of_some _ (b3.extBut _ _ m2 (b1.extBut _ _ m1 e))
theorem zo_item {Q : Option Value → Shared → Prop} (D : Ap1 z TI TO i1 l1) (Z : Zo k1 z TI TO i1 l1 xs i s.heap) (ex : xs[i]? = some x)
    (f : ∀ g, Zo k1 z TI TO i1 l1 xs (i + 1) g → (∀ T b, IsZipHeld g z TI TO T b → T = s.heap.objs.size ∨ ∃ b, IsZipHeld s.heap z TI TO T b) → One g s.heap.objs.size x → g.objs.size = s.heap.objs.size + 1 →
      (∀ c o, c ≠ z → c ≠ TO → c ≠ i1 → s.heap.get? c = some o → g.get? c = some o) → Q (some (.ref s.heap.objs.size)) { s with heap := g }) : wpAny (model P w) A (pyNext (.ref z)) Q E s := by
  have lt : ∀ {c o}, s.heap.get? c = some o → s.heap.objs.size ≠ c := fun e => Nat.ne_of_gt (Heap.lt_size e)
  have m1 : s.heap.objs.size ≠ i1 := let ⟨_, e⟩ := Z.c1.ex; lt e
  rw [pyNext]
  rcases Z.z with ⟨ez, a, eo⟩ | ⟨T, b, oT, ez, eT, r1, r2⟩
  · have ty : s.TypeIs (.ref z) "zip" := ⟨_, ez, rfl⟩
    refine wpAny_bind (wpAny_attempt (wpAny_callSpecial?_slot (name := Str.ofString "__next__") ty F.slot_zip_next (wpAny_call_entry F.slot_zip_next ty F.entry_zip_next ?_ (F.args_zip_next_1 _))))
    refine free_one D ez Z.ti eo Z.c1 Z.s1 ex fun g a1 a2 a4 a5 up => wpAny_pure (f g ?_ ?_ a4 a5 up)
    · exact ⟨up _ _ D.TIz D.TITO D.TIi1 Z.ti, a2, Z.s1.at_ fun o => up _ o D.l1z D.l1TO D.l1i1, .inr ⟨_, false, _, a1, a4, lt ez, m1⟩⟩
    · intro T' b' e'
      have e2 := (show g.get? z = _ from a1).symm.trans e'
      exact .inl (held_eq e2).symm
  · have ty : s.TypeIs (.ref z) "zip" := ⟨_, ez, rfl⟩
    refine wpAny_bind (wpAny_attempt (wpAny_callSpecial?_slot (name := Str.ofString "__next__") ty F.slot_zip_next (wpAny_call_entry F.slot_zip_next ty F.entry_zip_next ?_ (F.args_zip_next_1 _))))
    refine held_one D ez eT Z.ti Z.c1 Z.s1 ex fun g a1 a2 a4 a5 up => wpAny_pure (f g ?_ ?_ a4 a5 fun c o n1 _ n3 e => up c o n1 n3 e)
    · exact ⟨up _ _ D.TIz D.TIi1 Z.ti, a2, Z.s1.at_ fun o => up _ o D.l1z D.l1i1, .inr ⟨T, true, oT, a1, up _ _ r1 r2 eT, r1, r2⟩⟩
    · intro T' b' e'
      have e2 := (show g.get? z = _ from a1).symm.trans e'
      exact .inr ⟨b, held_eq e2 ▸ ez⟩
end
end Vf
namespace Vf
open PySem L2 PyProof.Rows PySem.Spec
section
variable {P : Program} {w : World} {A : Around} {E : Value → Shared → Prop} {s : Shared} {k1 : Kd} {z TI TO i1 l1 : Addr} {xs : Array Value} {i : Nat}
theorem over_one {Q : Fin → Shared → Prop} (hh : A.handled = none) (D : Ap1 z TI TO i1 l1) (Z : Zo k1 z TI TO i1 l1 xs i s.heap) (ex : xs[i]? = none)
    (f : ∀ g a, (∀ c o, c ≠ z → c ≠ TO → c ≠ i1 → s.heap.get? c = some o → g.get? c = some o) → (∃ o, g.get? a = some o ∧ o.cls = .type "StopIteration") → E (.ref a) { s with heap := g }) :
    wpAny (model P w) A (Builtin.«zip.__next__» ⟨[.ref z], []⟩) Q E s := by
  obtain ⟨ei, c1, q1, zz⟩ := Z
  obtain ⟨f0, b0, ez⟩ : ∃ f0 b0, s.heap.get? z = some { cls := .type "zip", dict := none, data := .fields #[f0, .bool b0, .bool false, .ref TI, .ref TO], slots := #[] } := by
    rcases zz with ⟨e, _⟩ | ⟨T, b, _, e, _⟩
    · exact ⟨_, _, e⟩
    · exact ⟨_, _, e⟩
  refine (show wpAny (model P w) A (field (.ref z) 2 >>= _) _ E s from ?_)
  refine wpAny_bind (wpAny_field ez rfl (x := .bool false) rfl ?_)
  refine (show wpAny (model P w) A (field (.ref z) 3 >>= _) _ E s from ?_)
  refine wpAny_bind (wpAny_field ez rfl (x := .ref TI) rfl (wpAny_bind (wpAny_seqItems ei rfl ?_)))
  refine (show wpAny (model P w) A (Builtin.SmallTypes.ownedTupleIsFree (.ref z) >>= _) _ E s from wpAny_bind ?_)
  rcases zz with ⟨ez, a, eo⟩ | ⟨T, b, oT, ez, eT, r1, r2⟩
  · rw [Builtin.SmallTypes.ownedTupleIsFree]
    refine wpAny_bind (wpAny_field ez rfl (x := .none) rfl (wpAny_pure ?_))
    rw [if_pos rfl]
    refine wpAny_bind (wpAny_rule (wpAny_bind (wpAny_field ez rfl (x := .ref TO) rfl ?_)))
    refine wpAny_bind (wpAny_setField_rec ez (by simp) fun g1 z1 b1 => wpAny_bind ?_)
    have z1 : IsZip g1 z TI TO .ellipsis := z1
    simp only [List.zipIdx_cons, List.zipIdx_nil, List.forIn_cons, List.forIn_nil]
    refine wpAny_bind (wpAny_bind (wpAny_onRaise ?_))
    refine (show wpAny (model P w) A (Builtin.SmallTypes.nextOf (.ref i1) >>= _) _ _ _ from wpAny_bind ?_)
    refine nx_end hh (c1.at_ fun o => b1.extBut _ o D.i1z) (q1.at_ fun o => b1.extBut _ o D.l1z) ex fun g2 a b2 ⟨oa, ea, ca⟩ => ?_
    have z2 : IsZip g2 z TI TO .ellipsis := b2 _ _ D.i1z.symm z1
    have na : a ≠ z := fun y => by rw [y, z2] at ea; cases ea; simp at ca
    refine wpAny_setField_rec z2 (by simp) fun g3 _ b3 => f g3 a (fun c o m1 _ m3 y => b3.extBut _ _ m1 (b2 _ _ m3 (b1.extBut _ _ m1 y))) ⟨oa, b3.extBut _ _ na ea, ca⟩
  · refine wpAny_tupleHeld_zip ez eT fun g1 z1 b1 => ?_
    rw [if_neg (show ¬ (false = true) from Bool.false_ne_true)]
    refine wpAny_bind ?_
    rw [← Array.forIn_toList]
    simp only [List.forIn_cons, List.forIn_nil]
    refine wpAny_bind (wpAny_bind (wpAny_holding ?_))
    refine (show wpAny (model P w) A (Builtin.SmallTypes.nextOf (.ref i1) >>= _) _ _ _ from wpAny_bind ?_)
    exact nx_end (s := { s with heap := g1 }) hh (c1.at_ fun o => b1.extBut _ o D.i1z) (q1.at_ fun o => b1.extBut _ o D.l1z) ex fun g2 a b2 ea => f g2 a (fun c o m1 _ m3 y => b2 _ _ m3 (b1.extBut _ _ m1 y)) ea
theorem zo_end {Q : Option Value → Shared → Prop} (hh : A.handled = none) (D : Ap1 z TI TO i1 l1) (Z : Zo k1 z TI TO i1 l1 xs i s.heap) (n : xs[i]? = none)
    (f : ∀ g, (∀ c o, c ≠ z → c ≠ TO → c ≠ i1 → s.heap.get? c = some o → g.get? c = some o) → Q none { s with heap := g }) : wpAny (model P w) A (pyNext (.ref z)) Q E s := by
  have ty : s.TypeIs (.ref z) "zip" := by
    rcases Z.z with ⟨e, _⟩ | ⟨T, b, _, e, _⟩
    · exact ⟨_, e, rfl⟩
    · exact ⟨_, e, rfl⟩
  rw [pyNext]
  refine wpAny_bind (wpAny_attempt (wpAny_callSpecial?_slot (name := Str.ofString "__next__") ty F.slot_zip_next (wpAny_call_entry F.slot_zip_next ty F.entry_zip_next (over_one hh D Z n fun g a up ⟨o, ea, ca⟩ => ?_) (F.args_zip_next_1 _))))
  exact wpAny_bind (wpAny_isInstance (T := "StopIteration") (b := true) ⟨o, ea, ca⟩ isSubtype_stop (wpAny_pure (f _ up)))
end
/-! ### zip(a) -/
abbrev yh3 (k1 : Kd) (h : Heap) (l1 : Addr) : Heap := (zh1 k1 h l1).push { cls := .type "tuple", data := .seq #[.ref h.objs.size] }
abbrev yh4 (k1 : Kd) (h : Heap) (l1 : Addr) : Heap := (yh3 k1 h l1).push { cls := .type "tuple", data := .seq #[.none] }
abbrev yh5 (k1 : Kd) (h : Heap) (l1 : Addr) : Heap := (yh4 k1 h l1).push { cls := .type "zip", data := .fields #[.none, .bool false, .bool false, .ref (zh1 k1 h l1).objs.size, .ref (yh3 k1 h l1).objs.size] }
theorem meets_zo (k1 : Kd) (l1 : Addr) (xs : Array Value) : Meets (Builtin.«zip.__new__» ⟨[.type "zip", .ref l1], []⟩) (fun _ R s => Sq k1 s.heap l1 xs ∧ R (.ok (.ret (.ref (yh4 k1 s.heap l1).objs.size))) { s with heap := yh5 k1 s.heap l1 }) :=
  .of_wp fun prog w A R s h => by
    obtain ⟨hp, g, d, tk, os⟩ := s
    obtain ⟨q1, h⟩ := h
    have sub := sub_zip
    cases k1
    · have a1 : Heap.IsList (Shared.heap ⟨hp, g, d, tk, os⟩) l1 xs := q1
      wp_walk using wpAny_pyIter_list a1
      exact ⟨_, rfl, h⟩
    · have a1 : Heap.IsTuple (Shared.heap ⟨hp, g, d, tk, os⟩) l1 xs := q1
      wp_walk using wpAny_pyIter_tuple a1
      exact ⟨_, rfl, h⟩
theorem typeCall_zip1 (a : Value) : checkTypeCall "zip" ⟨[a], []⟩ = pure () := by kernel_rfl
theorem newCall_zip1 (a : Value) : checkBuiltinCall "zip.__new__" ⟨[.type "zip", a], []⟩ = pure () := by kernel_rfl
section
variable {P : Program} {w : World} {A : Around} {E : Value → Shared → Prop} {s : Shared} {k1 : Kd} {l1 : Addr} {xs : Array Value}
theorem call_zo {Q : Value → Shared → Prop} (q1 : Sq k1 s.heap l1 xs)
    (f : ∀ g, Zo k1 (s.heap.objs.size + 3) (s.heap.objs.size + 1) (s.heap.objs.size + 2) s.heap.objs.size l1 xs 0 g → IsZip g (s.heap.objs.size + 3) (s.heap.objs.size + 1) (s.heap.objs.size + 2) .none →
      Ap1 (s.heap.objs.size + 3) (s.heap.objs.size + 1) (s.heap.objs.size + 2) s.heap.objs.size l1 → g.objs.size = s.heap.objs.size + 4 → (∀ c o, s.heap.get? c = some o → g.get? c = some o) → Q (.ref (s.heap.objs.size + 3)) { s with heap := g }) :
    wpAny (model P w) A (call (.type "zip") [.ref l1]) Q E s := by
  refine callType_new F.called_zip (by decide) (typeCall_zip1 _) (newCall_zip1 _) (fun obj => F.args_object_init_2 obj _) F.entry_zip_new (meets_zo k1 l1 xs) ⟨q1, ?_⟩
  have n1 : (zh1 k1 s.heap l1).objs.size = s.heap.objs.size + 1 := Heap.size_push ..
  have n3 : (yh3 k1 s.heap l1).objs.size = s.heap.objs.size + 2 := by rw [Heap.size_push, n1]
  have n4 : (yh4 k1 s.heap l1).objs.size = s.heap.objs.size + 3 := by rw [Heap.size_push, n3]
  have n5 : (yh5 k1 s.heap l1).objs.size = s.heap.objs.size + 4 := by rw [Heap.size_push, n4]
  have fr : ∀ k : Kd, ({ cls := .type (nmK k), data := .fields #[.ref l1, .int 0 0] } : Obj).isFreed = false := fun k => by cases k <;> rfl
  have g5 : (yh5 k1 s.heap l1).get? (yh4 k1 s.heap l1).objs.size = some _ := Heap.get?_push_size _ rfl
  have g4 : (yh5 k1 s.heap l1).get? (yh3 k1 s.heap l1).objs.size = some _ := Heap.get?_push_of_some _ (Heap.get?_push_size _ rfl)
  have g3 : (yh5 k1 s.heap l1).get? (zh1 k1 s.heap l1).objs.size = some _ := Heap.get?_push_of_some _ (Heap.get?_push_of_some _ (Heap.get?_push_size _ rfl))
  have g1 : (yh5 k1 s.heap l1).get? s.heap.objs.size = some _ := Heap.get?_push_of_some _ (Heap.get?_push_of_some _ (Heap.get?_push_of_some _ (Heap.get?_push_size _ (fr k1))))
  have up : ∀ c o, s.heap.get? c = some o → (yh5 k1 s.heap l1).get? c = some o := fun c o x => Heap.get?_push_of_some _ (Heap.get?_push_of_some _ (Heap.get?_push_of_some _ (Heap.get?_push_of_some _ x)))
  refine (show _ ∧ _ from ?_)
  rw [n1, n3, n4] at g5
  rw [n1] at g3
  rw [n3] at g4
  rw [n4]
  have la : Nat.lt l1 s.heap.objs.size := let ⟨_, e⟩ := q1.ex; Heap.lt_size e
  have ap : ∀ n l : Nat, Nat.lt l n → Ap1 (n + 3) (n + 1) (n + 2) n l := fun n l h => by
    have h : l < n := h
    constructor <;> (show (_ : Nat) ≠ _; omega)
  exact ⟨⟨_, g5, rfl⟩, f _ ⟨g3, cur_new g1, q1.at_ (up _), .inl ⟨g5, _, g4⟩⟩ g5 (ap _ _ la) n5 up⟩
end
end Vf
namespace Vf
open PySem L2 PyProof.Rows PySem.Spec
/-- what a list has got of a zip -/
structure Got1 (xs : Array Value) (base i : Nat) (acc : Array Value) (g : Heap) : Prop where
  size : acc.size = i
  at_ : ∀ j, j < i → ∃ T x, acc[j]? = some (.ref T) ∧ xs[j]? = some x ∧ One g T x ∧ base ≤ T
theorem neA1 {a b : Addr} {n : Nat} (h : Nat.lt b n) (k : Nat.le n a) : a ≠ b := fun e => Nat.lt_irrefl n (Nat.lt_of_le_of_lt k (e ▸ h))
section
variable {P : Program} {w : World} {A : Around} {E : Value → Shared → Prop} {R : Result → Shared → Prop} {s : Shared} {k1 : Kd} {z TI TO i1 l1 S : Addr} {xs : Array Value} {n base : Nat} {h0 : Heap}
theorem zl_loop1 (hh : A.handled = none) (D : Ap1 z TI TO i1 l1) (res : Value) (hn : n ≤ sizeLine) (ex : xs.size = n) (nS : S ≠ z ∧ S ≠ TI ∧ S ≠ TO ∧ S ≠ i1 ∧ S ≠ l1) (lt : Nat.lt S base ∧ Nat.lt z base ∧ Nat.lt TO base ∧ Nat.lt i1 base) :
    ∀ (m i : Nat) (g : Heap) (acc : Array Value) (c : Nat), n - i = m → i ≤ n → Zo k1 z TI TO i1 l1 xs i g → (∀ T b, IsZipHeld g z TI TO T b → base ≤ T) → base ≤ g.objs.size →
      g.get? S = some { cls := .type "list", dict := none, data := .seq acc c, slots := #[] } → Got1 xs base i acc g → (∀ b o, b < base → b ≠ S → b ≠ z → b ≠ TO → b ≠ i1 → h0.get? b = some o → g.get? b = some o) →
      (∀ g2 acc2 c2, g2.get? S = some { cls := .type "list", dict := none, data := .seq acc2 c2, slots := #[] } → Got1 xs base n acc2 g2 → (∀ b o, b < base → b ≠ S → b ≠ z → b ≠ TO → b ≠ i1 → h0.get? b = some o → g2.get? b = some o) → R (.ok (.ret res)) { s with heap := g2 }) →
      codeAny (model P w) A (.builtin "list.extend.loop" ⟨[.ref S, .ref z, res], []⟩) R { s with heap := g } := by
  intro m
  induction m with
  | zero =>
    intro i g acc c em hi Z _ _ eS G up fin
    obtain rfl : i = n := by omega
    refine codeAny_builtin F.entry_extend_loop ?_
    rw [Around.under_plainId F.plain_extend_loop]
    refine (show wpAny (model P w) A.in1 (pyNext (.ref z) >>= _) _ _ _ from wpAny_bind ?_)
    refine zo_end (s := { s with heap := g }) hh D Z (Array.getElem?_eq_none (by omega)) fun g2 up2 => wpAny_pure ?_
    refine fin g2 acc c (up2 _ _ nS.1 nS.2.2.1 nS.2.2.2.1 eS) ⟨G.size, fun j hj => ?_⟩ fun b o b1 b2 b3 b4 b5 e => up2 _ _ b3 b4 b5 (up b o b1 b2 b3 b4 b5 e)
    obtain ⟨T, x, e1, e2, e4, e5⟩ := G.at_ j hj
    exact ⟨T, x, e1, e2, up2 _ _ (neA1 lt.2.1 e5) (neA1 lt.2.2.1 e5) (neA1 lt.2.2.2 e5) e4, e5⟩
  | succ m ih =>
    intro i g acc c em hi Z hT hb eS G up fin
    have hlt : i < n := by omega
    refine codeAny_builtin F.entry_extend_loop ?_
    rw [Around.under_plainId F.plain_extend_loop]
    refine (show wpAny (model P w) A.in1 (pyNext (.ref z) >>= _) _ _ _ from wpAny_bind ?_)
    obtain ⟨x, hx⟩ : ∃ x, xs[i]? = some x := ⟨_, Array.getElem?_eq_getElem (by omega)⟩
    refine zo_item (s := { s with heap := g }) D Z hx fun g2 Z2 hT2 pr sz up2 => ?_
    have hT2 : ∀ T b, IsZipHeld g2 z TI TO T b → T = g.objs.size ∨ ∃ b, IsZipHeld g z TI TO T b := hT2
    have pr : One g2 g.objs.size x := pr
    have sz : g2.objs.size = g.objs.size + 1 := sz
    have eS2 := up2 _ _ nS.1 nS.2.2.1 nS.2.2.2.1 eS
    have hT3 : ∀ T b, IsZipHeld g2 z TI TO T b → base ≤ T := fun T b e => (hT2 T b e).elim (fun q => q ▸ hb) fun ⟨b', e'⟩ => hT T b' e'
    refine (show wpAny (model P w) A.in1 (updateSeq S (·.push (.ref g.objs.size)) >>= _) _ _ _ from wpAny_bind ?_)
    have oth : ∀ b o, b ≠ S → g2.get? b = some o → (g2.update S (Obj.mapSeq (·.push (Value.ref g.objs.size)))).get? b = some o := fun b o nb e => (Heap.get?_update_other _ _ nb.symm).trans e
    have e3 := Heap.get?_update_self (Obj.mapSeq (·.push (Value.ref g.objs.size))) eS2 rfl
    refine wpAny_updateSeq (s := { s with heap := g2 }) eS2 rfl (wpAny_pure ⟨plainId_quiet F.plain_extend_loop _, ih (i + 1) _ _ _ (by omega) hlt (Z2.but oth nS fun T f e => ?_) (fun T b e => ?_) ?_ e3 ⟨by rw [Array.size_push, G.size], fun j hj => ?_⟩ (fun b o b1 b2 b3 b4 b5 e => oth _ _ b2 (up2 _ _ b3 b4 b5 (up b o b1 b2 b3 b4 b5 e))) fin⟩)
      (by rw [G.size]; omega) (by show (acc.push (Value.ref g.objs.size)).size ≤ sizeLine + 1; rw [Array.size_push, G.size]; omega)
    · exact neA1 lt.1 (hT3 T f e)
    · refine hT3 T b ?_
      have q : (g2.update S (Obj.mapSeq (·.push (Value.ref g.objs.size)))).get? z = g2.get? z := Heap.get?_update_other _ _ nS.1
      exact q.symm.trans e
    · rw [Heap.size_update, sz]
      exact Nat.le_succ_of_le hb
    · by_cases hji : j < i
      · obtain ⟨T, x', e1, e2, e5, e6⟩ := G.at_ j hji
        refine ⟨T, x', ?_, e2, oth _ _ (neA1 lt.1 e6) (up2 _ _ (neA1 lt.2.1 e6) (neA1 lt.2.2.1 e6) (neA1 lt.2.2.2 e6) e5), e6⟩
        rw [Array.getElem?_push, if_neg (by rw [G.size]; omega)]
        exact e1
      · obtain rfl : j = i := by omega
        refine ⟨g.objs.size, x, ?_, hx, oth _ _ (neA1 lt.1 hb) pr, hb⟩
        rw [Array.getElem?_push, if_pos G.size.symm]
/-- list(z) of a new zip -/
theorem call_list_zo {Q : Value → Shared → Prop} (hh : A.handled = none) (D : Ap1 z TI TO i1 l1) (Z : Zo k1 z TI TO i1 l1 xs 0 s.heap) (ez : IsZip s.heap z TI TO .none) (hn : n ≤ sizeLine) (ex : xs.size = n)
    (f : ∀ g acc c, g.get? s.heap.objs.size = some { cls := .type "list", dict := none, data := .seq acc c, slots := #[] } → Got1 xs (s.heap.objs.size + 1) n acc g →
      (∀ b o, b ≠ z → b ≠ TO → b ≠ i1 → s.heap.get? b = some o → g.get? b = some o) → Q (.ref s.heap.objs.size) { s with heap := g }) :
    wpAny (model P w) A (call (.type "list") [.ref z]) Q E s := by
  have lz : z < s.heap.objs.size := Heap.lt_size ez
  have lTI : TI < s.heap.objs.size := Heap.lt_size Z.ti
  have l1' : i1 < s.heap.objs.size := let ⟨_, e⟩ := Z.c1.ex; Heap.lt_size e
  have m1 : l1 < s.heap.objs.size := let ⟨_, e⟩ := Z.s1.ex; Heap.lt_size e
  have lTO : TO < s.heap.objs.size := by
    rcases Z.z with ⟨_, _, e⟩ | ⟨T, b, o, e, _⟩
    · exact Heap.lt_size e
    · have := ez.symm.trans e
      simp [rawInt] at this
  refine callType_codes (Q₁ := fun obj t => obj = .ref s.heap.objs.size ∧ t = { s with heap := s.heap.push { cls := .type "list", data := .seq #[] } }) F.called_list (F.typeCall_list_1 _) F.entry_list_init (code_list_new _ ⟨rfl, rfl⟩) fun obj t ⟨e1, e2⟩ => ?_
  subst e1 e2
  have eS : (s.heap.push { cls := .type "list", data := .seq #[] }).get? s.heap.objs.size = some { cls := .type "list", data := .seq #[] } := Heap.get?_push_size _ rfl
  refine ⟨⟨_, eS, rfl⟩, F.args_list_init_2 _ _, ?_⟩
  refine (show wpAny (model P w) A.in1.in1 (do let old ← Builtin.List.listItems (.ref s.heap.objs.size); Builtin.List.listUpdate (.ref s.heap.objs.size) (fun _ => #[]); letGo old.toList.reverse; Builtin.List.listExtendWith (.ref s.heap.objs.size) (.ref z) .none) _ _ _ from wpAny_bind ?_)
  rw [Builtin.List.listItems]
  refine wpAny_bind (wpAny_seqItems eS rfl (wpAny_pure ?_))
  refine (show wpAny (model P w) A.in1.in1 (updateSeq s.heap.objs.size (fun _ => #[]) >>= _) _ _ _ from wpAny_bind (wpAny_updateSeq eS rfl (wpAny_bind (wpAny_letGo ?_))))
  have eS2 := Heap.get?_update_self (Obj.mapSeq (fun _ => (#[] : Array Value))) eS rfl
  obtain ⟨h2, eh2⟩ : ∃ h2, h2 = (s.heap.push { cls := .type "list", data := .seq #[] }).update s.heap.objs.size (Obj.mapSeq fun _ => #[]) := ⟨_, rfl⟩
  have up2 : ∀ b o, b ≠ s.heap.objs.size → s.heap.get? b = some o → h2.get? b = some o := fun b o nb e => by
    rw [eh2]
    exact (Heap.get?_update_other _ _ nb.symm).trans (Heap.get?_push_of_some _ e)
  have z2 : IsZip h2 z TI TO .none := up2 _ _ (Nat.ne_of_lt lz) ez
  have n2 : h2.objs.size = s.heap.objs.size + 1 := by rw [eh2, Heap.size_update, Heap.size_push]
  rw [← eh2] at eS2
  refine (show wpAny (model P w) A.in1.in1 (Builtin.List.listExtendWith (.ref s.heap.objs.size) (.ref z) .none) _ _ { s with heap := (s.heap.push { cls := .type "list", data := .seq #[] }).update s.heap.objs.size (Obj.mapSeq fun _ => #[]) } from ?_)
  rw [← eh2, Builtin.List.listExtendWith]
  refine wpAny_bind (wpAny_typeOf (T := "zip") ⟨_, z2, rfl⟩ ?_)
  have t1 : Builtin.List.listSameRef (.ref s.heap.objs.size) (.ref z) = false := by simp [Builtin.List.listSameRef]; exact Nat.ne_of_gt lz
  have t2 : (Value.type "zip" == Value.type "list") = false := by decide
  have t3 : (Value.type "zip" == Value.type "tuple") = false := by decide
  simp only [t1, t2, t3, Bool.or_self, Bool.false_eq_true, if_false]
  refine wpAny_bind (wpAny_pyIter_zip z2 (wpAny_bind (wpAny_holding ?_)))
  rw [Builtin.List.listLengthHint]
  refine wpAny_bind (wpAny_specialOf (T := "zip") ⟨_, z2, rfl⟩ zip_no_len ?_)
  refine (show wpAny (model P w) A.in1.in1 (specialOf (Value.ref z) (Str.ofString "__length_hint__") >>= _) _ _ _ from wpAny_bind (wpAny_specialOf (T := "zip") ⟨_, z2, rfl⟩ zip_no_hint (wpAny_pure ?_)))
  refine (show wpAny (model P w) A.in1.in1 (rule "list.extend.makes-room" >>= fun _ => Builtin.List.listTouch (.ref s.heap.objs.size) >>= fun _ => again (.builtin "list.extend.loop" ⟨[.ref s.heap.objs.size, .ref z, .none], []⟩)) _ _ _ from wpAny_bind (wpAny_rule (wpAny_bind ?_)))
  refine (show wpAny (model P w) A.in1.in1 (updateSeq s.heap.objs.size (·.push .none) >>= fun _ => updateSeq s.heap.objs.size (·.pop)) _ _ _ from wpAny_bind (wpAny_updateSeq (s := { s with heap := h2 }) eS2 rfl ?_))
  have eS3 := Heap.get?_update_self (Obj.mapSeq (·.push Value.none)) eS2 rfl
  refine wpAny_updateSeq (hz := by seq_fits) eS3 rfl ?_
  have eS4 := Heap.get?_update_self (Obj.mapSeq (·.pop)) eS3 rfl
  obtain ⟨h4, eh4⟩ : ∃ h4, h4 = (h2.update s.heap.objs.size (Obj.mapSeq (·.push Value.none))).update s.heap.objs.size (Obj.mapSeq (·.pop)) := ⟨_, rfl⟩
  have up4 : ∀ b o, b ≠ s.heap.objs.size → s.heap.get? b = some o → h4.get? b = some o := fun b o nb e => by
    rw [eh4]
    exact (Heap.get?_update_other _ _ nb.symm).trans ((Heap.get?_update_other _ _ nb.symm).trans (up2 b o nb e))
  have n4 : h4.objs.size = s.heap.objs.size + 1 := by rw [eh4, Heap.size_update, Heap.size_update, n2]
  rw [← eh4] at eS4
  have z4 : IsZip h4 z TI TO .none := up4 _ _ (Nat.ne_of_lt lz) ez
  have Z4 : Zo k1 z TI TO i1 l1 xs 0 h4 := by
    refine Z.but up4 ⟨Nat.ne_of_gt lz, Nat.ne_of_gt lTI, Nat.ne_of_gt lTO, Nat.ne_of_gt l1', Nat.ne_of_gt m1⟩ fun T b e => ?_
    have := ez.symm.trans e
    simp [rawInt] at this
  refine wpAny_pure ⟨plainId_quiet F.plain_extend_loop _, ?_⟩
  refine (show codeAny (model P w) A.in1 (.builtin "list.extend.loop" ⟨[.ref s.heap.objs.size, .ref z, .none], []⟩) _ { s with heap := (h2.update s.heap.objs.size (Obj.mapSeq (·.push Value.none))).update s.heap.objs.size (Obj.mapSeq (·.pop)) } from ?_)
  rw [← eh4]
  refine zl_loop1 (h0 := s.heap) (base := s.heap.objs.size + 1) (A := A.in1) hh D .none hn ex ⟨Nat.ne_of_gt lz, Nat.ne_of_gt lTI, Nat.ne_of_gt lTO, Nat.ne_of_gt l1', Nat.ne_of_gt m1⟩ ⟨Nat.lt_succ_self _, Nat.lt_succ_of_lt lz, Nat.lt_succ_of_lt lTO, Nat.lt_succ_of_lt l1'⟩ n 0 h4 _ _ rfl (Nat.zero_le _) Z4 (fun T b e => ?_) (Nat.le_of_eq n4.symm) eS4 ⟨rfl, fun j hj => absurd hj (Nat.not_lt_zero _)⟩
    (fun b o _ nb _ _ _ e => up4 b o nb e) fun g acc c eg G up => ?_
  · have := z4.symm.trans e
    simp [rawInt] at this
  · exact ⟨rfl, f g acc c eg G fun b o b1 b2 b3 e => up b o (Nat.lt_succ_of_lt (Heap.lt_size e)) (Nat.ne_of_lt (Heap.lt_size e)) b1 b2 b3 e⟩
end
end Vf
namespace Vf
open PySem L2 PyProof.Rows PySem.Spec
section
variable {X : Cx} {pins : List (Addr × Obj)} {σ : L2.St} {s : Shared}
/-- tuples of one that are laid, tracked -/
theorem take_ones {H0 : Hp} {g : Heap} {tk : Nat} (I0 : Inv X pins σ H0 s) : ∀ (L : List (Addr × V)) (H1 : Hp), Inv X pins σ H1 { s with heap := g, toks := tk } →
    (∀ p ∈ L, s.heap.objs.size ≤ p.1 ∧ (∀ H2, ObjOk X.prog X.w H2 g p.1 (.tup [p.2])) ∧ (H1 p.1 = none ∨ H1 p.1 = some (.tup [p.2]))) → (∀ p ∈ L, ∀ q ∈ L, p.1 = q.1 → p.2 = q.2) →
    ∃ H2, Inv X pins σ H2 { s with heap := g, toks := tk } ∧ Same H1 H2 ∧ (∀ p ∈ L, H2 p.1 = some (.tup [p.2])) ∧ ∀ b, (∀ p ∈ L, b ≠ p.1) → H2 b = H1 b
  | [], H1, I1, _, _ => ⟨H1, I1, Same.refl _, fun p h => (by simp at h), fun _ _ => rfl⟩
  | p :: L, H1, I1, h, u => by
    obtain ⟨hb, ok, hn⟩ := h p List.mem_cons_self
    have u2 : ∀ q ∈ L, ∀ r ∈ L, q.1 = r.1 → q.2 = r.2 := fun q hq r hr => u q (List.mem_cons_of_mem _ hq) r (List.mem_cons_of_mem _ hr)
    rcases hn with hn | hn
    · have I2 : Inv X pins σ (upd H1 p.1 (.tup [p.2])) { s with heap := g, toks := tk } := I1.take (h' := g) (t' := tk) (fun b ob _ e => e) (I0.fpOk hb hn) (ok _)
      obtain ⟨H2, I3, sm, all, oth⟩ := take_ones I0 L _ I2 (fun q hq => by
        obtain ⟨a, b, c⟩ := h q (List.mem_cons_of_mem _ hq)
        refine ⟨a, b, ?_⟩
        by_cases e : q.1 = p.1
        · right
          rw [e, upd_same, u q (List.mem_cons_of_mem _ hq) p List.mem_cons_self e]
        · rw [upd_ne e]
          exact c) u2
      refine ⟨H2, I3, (same_upd hn).trans sm, fun q hq => ?_, fun b nb => ?_⟩
      · rcases List.mem_cons.mp hq with rfl | hq
        · exact sm _ _ upd_same
        · exact all q hq
      · rw [oth b fun q hq => nb q (List.mem_cons_of_mem _ hq), upd_ne (nb p List.mem_cons_self)]
    · obtain ⟨H2, I3, sm, all, oth⟩ := take_ones I0 L H1 I1 (fun q hq => h q (List.mem_cons_of_mem _ hq)) u2
      refine ⟨H2, I3, sm, fun q hq => ?_, fun b nb => oth b fun q hq => nb q (List.mem_cons_of_mem _ hq)⟩
      rcases List.mem_cons.mp hq with rfl | hq
      · exact sm _ _ hn
      · exact all q hq
theorem callWith_typeS {M : Model} {A : Around} {E : Value → Shared → Prop} {T : String} {e : Expr} {env : Env} {p pos : Pos} {Q : Value → Shared → Prop}
    (h : wpAny M A (eval e env) (fun v s₁ => PySem.W.StarOf M A E v (fun vs s₂ => wpAny M A (call (.type T) vs) Q E s₂) s₁) E s) (he : starEach [.Starred e p] env = [(true, eval e env)] := by rfl) :
    wpAny M A (callWith pos (.type T) [] (backTo pos (starEach [.Starred e p] env)) []) Q E s := by
  rw [he]
  refine PySem.W.ks_call (P := fun _ => True) rfl (fun h _ => ⟨.machine, .inr (.inl rfl), PySem.W.Looks.of_pure rfl⟩) (PySem.W.ks_lone (wpAny_mono h (fun v s1 hv => ?_) fun _ _ x => x))
  exact wpAny_mono hv (fun b s2 ⟨h1, h2⟩ => ⟨h1, wpAny_mono h2 (fun vs s3 h3 => ⟨trivial, h3⟩) fun _ _ x => x⟩) fun _ _ x => x
/-- list(zip(*e)), e of one row -/
def tLZ (K : PySem.W.Frag) (te : TE) : TE := fun σ H Q => te σ H fun v H1 => ∃ (a l : Addr) (xs : List V), v = .ref a ∧ (SqT K H1 a [.ref l] ∨ SqL K H1 a [.ref l]) ∧ Row K H1 l xs ∧
  ∀ (p : Addr) (Ts : List Addr) (H' : Hp), Same H1 H' → H1 p = none → H' p = some (.lst (Ts.map V.ref)) → Ts.length = xs.length → (∀ (j : Nat) T x, Ts[j]? = some T → xs[j]? = some x → H' T = some (.tup [x])) → Q (.ref p) H'
def refA : Value → Addr
  | .ref a => a
  | _ => 0
theorem refs_vals : ∀ Ts : List Addr, Vals (Ts.map V.ref) (Ts.map Value.ref)
  | [] => .nil
  | t :: Ts => .cons rfl (refs_vals Ts)
theorem pe_lz {e : Expr} {te : TE} {p p2 sp pos pos2 : Pos} (hg3 : Gl X "list") (hm3 : X.mg "list" = none) (hg2 : Gl X "zip") (hm2 : X.mg "zip" = none) (hc : X.calm = true) (he : PE X e te)
    (nb : starEach [.Call (.Name "zip" p2) [.Starred e sp] [] pos2] X.env = (false, eval (.Call (.Name "zip" p2) [.Starred e sp] [] pos2) X.env) :: starEach [] X.env := by rfl)
    (hs : starEach [.Starred e sp] X.env = [(true, eval e X.env)] := by rfl) :
    PE X (.Call (.Name "list" p) [.Call (.Name "zip" p2) [.Starred e sp] [] pos2] [] pos) (tLZ X.K te) := by
  refine ⟨fun pins s σ H Q I h => ?_⟩
  refine Call_ (ld_blt I hg3 hm3 boot_list (PyProof.Rows.callWith_type1 (args_cons ?_ nb) nb))
  refine Call_ (ld_blt I hg2 hm2 PyProof.Rows.boot_zip (callWith_typeS (thn (he.run pins s σ H _ I h) fun v s1 ⟨y, H1, I1, ry, a, l, xs, ey, hx, row, q⟩ => ?_) hs))
  subst ey
  obtain rfl : v = Value.ref a := ry
  refine StX.star_any I1 hx fun us s2 I2 rv => ?_
  obtain rfl : us = [.ref l] := Vals.ref1 rv
  obtain ⟨k1, its, v1, q1, z1⟩ := row_raw I2 row
  refine call_zo q1 fun g Z ez D n4 up => args_nil ?_
  have n1 : its.length = xs.length := v1.length.symm
  refine call_list_zo (s := { s2 with heap := g }) (n := its.length) (I2.ok.hd hc) D Z ez (by omega) (by simp) fun g2 acc c eS G up2 => ?_
  have sz : g.objs.size = s2.heap.objs.size + 4 := n4
  have old : ∀ b, b < s2.heap.objs.size → b ≠ s2.heap.objs.size + 3 ∧ b ≠ s2.heap.objs.size + 2 ∧ b ≠ s2.heap.objs.size := fun b (h : Nat.lt b s2.heap.objs.size) => by
    have h : @LT.lt Nat _ b s2.heap.objs.size := h
    refine ⟨?_, ?_, ?_⟩ <;> (show ¬ @Eq Nat b _; omega)
  have keep : ∀ b o, s2.heap.get? b = some o → g2.get? b = some o := fun b o e => by
    obtain ⟨m1, m2, m3⟩ := old b (Heap.lt_size e)
    exact up2 b o m1 m2 m3 (up b o e)
  have I3 : Inv X pins σ H1 { s2 with heap := g2, toks := s2.toks } := I2.kept (t' := s2.toks) keep
  have at_ : ∀ j, j < its.length → ∃ T w, acc.toList[j]? = some (.ref T) ∧ its[j]? = some w ∧ One g2 T w ∧ g.objs.size + 1 ≤ T := fun j hj => by
    obtain ⟨T, w, e1, e2, e3, e4⟩ := G.at_ j hj
    exact ⟨T, w, by simpa using e1, by simpa using e2, e3, e4⟩
  have al : acc.toList.length = its.length := by rw [Array.length_toList, G.size]
  have eT : acc.toList = (acc.toList.map refA).map Value.ref := by
    rw [List.map_map]
    refine (List.map_id _).symm.trans (List.map_congr_left fun v hv => ?_)
    obtain ⟨j, hj, e⟩ := List.getElem_of_mem hv
    obtain ⟨T, w, e1, _⟩ := at_ j (by omega)
    rw [List.getElem?_eq_getElem hj, e] at e1
    rw [Option.some.inj e1]
    rfl
  generalize hTs : acc.toList.map refA = Ts at eT
  have Tl : Ts.length = xs.length := by rw [← hTs, List.length_map, al, n1]
  have cell : ∀ (j : Nat) T x, Ts[j]? = some T → xs[j]? = some x → ∃ w, its[j]? = some w ∧ RelV x w ∧ One g2 T w ∧ g.objs.size + 1 ≤ T := fun j T x h1 h2 => by
    have hj : j < its.length := by
      have := (List.getElem?_eq_some_iff.mp h2).1
      omega
    obtain ⟨T', w, e1, e2, e3, e4⟩ := at_ j hj
    obtain ⟨w', e5, r⟩ := v1.get h2
    rw [e2] at e5
    cases e5
    rw [eT, List.getElem?_map, h1] at e1
    cases e1
    exact ⟨w, e2, r, e3, e4⟩
  have mem : ∀ q ∈ Ts.zip xs, ∃ j, Ts[j]? = some q.1 ∧ xs[j]? = some q.2 := fun q hq => by
    obtain ⟨j, hj, e⟩ := List.getElem_of_mem hq
    have e2 : (Ts.zip xs)[j]? = some q := by rw [List.getElem?_eq_getElem hj, e]
    rw [List.getElem?_zip_eq_some] at e2
    exact ⟨j, e2⟩
  obtain ⟨H2, I4, sm, all, oth⟩ := take_ones (g := g2) (tk := s2.toks) I2 (Ts.zip xs) H1 I3 (fun q hq => by
    obtain ⟨j, e1, e2⟩ := mem q hq
    obtain ⟨w, _, r, on, ge⟩ := cell j q.1 q.2 e1 e2
    have ge : s2.heap.objs.size ≤ q.1 := Nat.le_trans (by rw [sz]; exact Nat.le_trans (Nat.le_add_right _ 4) (Nat.le_succ _)) ge
    exact ⟨ge, fun H2 => ⟨by show 1 ≤ sizeLine; decide, [w], .cons r .nil, ⟨_, on, rfl, _, rfl⟩⟩, .inl (I2.hok.fresh ge)⟩) (fun q hq r hr e => by
    obtain ⟨j, e1, e2⟩ := mem q hq
    obtain ⟨i, e3, e4⟩ := mem r hr
    obtain ⟨w, _, r1, on, _⟩ := cell j q.1 q.2 e1 e2
    obtain ⟨w', _, r2, on', _⟩ := cell i r.1 r.2 e3 e4
    rw [e] at on
    have := on.symm.trans on'
    simp only [Option.some.injEq, Obj.mk.injEq, Data.seq.injEq, true_and, and_true] at this
    have ew : w = w' := by simpa using this
    rw [ew] at r1
    exact r1.inj r2)
  have bigS : s2.heap.objs.size ≤ g.objs.size := by rw [sz]; exact Nat.le_add_right _ _
  have nS : H2 g.objs.size = none := by
    rw [oth _ fun q hq e => ?_]
    · exact I2.hok.fresh bigS
    · obtain ⟨j, e1, e2⟩ := mem q hq
      obtain ⟨w, _, _, _, ge⟩ := cell j q.1 q.2 e1 e2
      have ge : g.objs.size + 1 ≤ q.1 := ge
      rw [← e] at ge
      exact Nat.not_succ_le_self _ ge
  have I5 : Inv X pins σ (upd H2 g.objs.size (.lst (Ts.map V.ref))) { s2 with heap := g2, toks := s2.toks } := I4.take (h' := g2) (t' := s2.toks) (fun b ob _ e => e) (I2.fpOk bigS nS)
    ⟨by rw [List.length_map, Tl]; exact z1, acc.toList, c, by rw [eT]; exact refs_vals Ts, by simpa using eS⟩
  refine ⟨.ref g.objs.size, _, I5, rfl, q _ Ts _ (sm.trans (same_upd nS)) (I2.hok.fresh bigS) upd_same Tl fun j T x h1 h2 => ?_⟩
  refine same_upd nS _ _ (all (T, x) ?_)
  refine List.mem_iff_getElem?.mpr ⟨j, ?_⟩
  rw [List.getElem?_zip_eq_some]
  exact ⟨h1, h2⟩
end
end Vf
namespace Vf
open PySem L2 PyProof.Rows PySem.Spec
def top (i : Nat) : Stmt := PySem.Challenge.pw_poisonrules_k52_outcomes_let.main.body.getD i (.Pass ⟨0, 0, 0, 0⟩)
structure Tx (K : PySem.W.Frag) (mg : Str → Option Value) : Prop where
  isinstance : mg "isinstance" = none
  str : mg "str" = none
  int : mg "int" = none
  bool : mg "bool" = none
  tuple : mg "tuple" = none
  len : mg "len" = none
  all : mg "all" = none
  any : mg "any" = none
  sum : mg "sum" = none
  list : mg "list" = none
  range : mg "range" = none
  repr : mg "repr" = none
  set : mg "set" = none
  sorted : mg "sorted" = none
  dict : mg "dict" = none
  max : mg "max" = none
  min : mg "min" = none
  zip : mg "zip" = none
  enumerate : mg "enumerate" = none
  reversed : mg "reversed" = none
local macro_rules | `(tactic| walk_at "rd") => `(tactic| simp only [tSeq, tIfS, tOr, tAnd, tNot, tB, tTest, tChain, tCB, tCons, tNil, tVar, tC, tRet, tAndV, tOrV, tNotV, tOp, tNext, tDrop, tAsg, tPar, tYes, tIf, tCall, tCalK, tTup, tLst, tSl, tNoPart, tPart, tM0, tM1, tRevL, tBM0, tBM, gName, rI0, rI, rU, rInA, rEqA, rAddA, rMulA, rSlAny, iAny, rIsi, rAll, rAny, rSum, rList, rTuple, rLen, rLenS, rLenSeq, rMulS, CDiv, rIn, rEqD, rNeD, iList, iTup, iStr, rCat, rCatA, rSlL, rSlA, rSlS, gSub, rPop, rAppend, rSetL, rIx, rIxL, rIxT, rIxS, LenV,
  L2.start, List.map_cons, List.map_nil, List.length_cons, List.length_nil, List.cons_append, List.nil_append, List.append_nil, Nat.zero_add, Nat.add_sub_cancel, Nat.sub_self, List.replicate_succ, List.replicate_zero, List.getElem?_cons_zero, List.getElem?_cons_succ, List.set_cons_zero, List.set_cons_succ,
  Option.some.injEq, V.int.injEq, V.str.injEq, V.bl.injEq, V.ref.injEq, List.cons.injEq, and_true, true_and, exists_eq_left', exists_eq_left, exists_eq_right, exists_and_left, exists_and_right, false_or, or_false, reduceCtorEq, false_and, and_false, exists_false, Bool.not_true, Bool.not_false, if_true, if_false, Bool.false_eq_true, ite_true, ite_false])
def kept : List Str := ["and", "below", "choice", "copy", "froze", "if", "in", "left", "less", "not", "or", "out", "quot", "rest", "right", "rule", "same", "sum", "times", "to", "twice", "under", "unlike", "width", "xor"]
def abc : Str := "abcdefghijklmnopqrstuvwxyz"
/-- is it a name: by the program's words -/
def isName (x : V) : Bool := match x with
  | .str s => decide (1 ≤ s.length) && decide (s.length ≤ 8) && !inV x (kept.map V.str) && s.cps.toList.all fun c => decide (c ∈ abc.cps.toList)
  | _ => false
def inAbc (x : V) : V := match x with
  | .str s => .bl (decide (s.cps.toList.headD 0 ∈ abc.cps.toList))
  | _ => .non
theorem inAbc_sign (c : Nat) : inAbc (.str ⟨#[c]⟩) = .bl (decide (c ∈ abc.cps.toList)) := rfl
theorem inAbc_all (z : Str) : ((signs z).filter fun _ => true).map inAbc = (z.cps.toList.map fun c => decide (c ∈ abc.cps.toList)).map V.bl := by
  rw [List.filter_eq_self.mpr fun _ _ => rfl]
  unfold signs
  rw [List.map_map, List.map_map]
  rfl
end Vf
namespace Vf
open PySem L2 PyProof.Rows PySem.Spec
local macro_rules | `(tactic| walk_at "rd") => `(tactic| simp only [tSeq, tIfS, tOr, tAnd, tNot, tB, tTest, tChain, tCB, tCons, tNil, tVar, tC, tRet, tAndV, tOrV, tNotV, tOp, tNext, tDrop, tAsg, tPar, tYes, tIf, tCall, tCalK, tTup, tLst, tSl, tNoPart, tPart, tM0, tM1, tRevL, tBM0, tBM, gName, rI0, rI, rU, rInA, rEqA, rAddA, rMulA, rSlAny, iAny, rIsi, rAll, rAny, rSum, rList, rTuple, rLen, rLenS, rLenSeq, rMulS, CDiv, rIn, rEqD, rNeD, iList, iTup, iStr, rCat, rCatA, rSlL, rSlA, rSlS, gSub, rPop, rAppend, rSetL, rIx, rIxL, rIxT, rIxS, LenV,
  L2.start, List.map_cons, List.map_nil, List.length_cons, List.length_nil, List.cons_append, List.nil_append, List.append_nil, Nat.zero_add, Nat.add_sub_cancel, Nat.sub_self, List.replicate_succ, List.replicate_zero, List.getElem?_cons_zero, List.getElem?_cons_succ, List.set_cons_zero, List.set_cons_succ,
  Option.some.injEq, V.int.injEq, V.str.injEq, V.bl.injEq, V.ref.injEq, List.cons.injEq, and_true, true_and, exists_eq_left', exists_eq_left, exists_eq_right, exists_and_left, exists_and_right, false_or, or_false, reduceCtorEq, false_and, and_false, exists_false, Bool.not_true, Bool.not_false, if_true, if_false, Bool.false_eq_true, ite_true, ite_false])
theorem rEq_int {i j : Int} {H : Hp} {Q : VK} : rEq (.int i) (.int j) H Q = Q (.bl (decide (i = j))) H := by
  have e : decide (V.int i = V.int j) = decide (i = j) := by simp
  unfold rEq
  rw [e]
  exact propext ⟨fun h => h.2, fun h => ⟨rfl, h⟩⟩
theorem rEq_str {i j : Str} {H : Hp} {Q : VK} : rEq (.str i) (.str j) H Q = Q (.bl (decide (i = j))) H := by
  have e : decide (V.str i = V.str j) = decide (i = j) := by simp
  unfold rEq
  rw [e]
  exact propext ⟨fun h => h.2, fun h => ⟨rfl, h⟩⟩
local macro_rules | `(tactic| walk_at "rq") => `(tactic| (walk_at "rd"; (try simp only [rEq_int, rEq_str, tUn, rU, tC, rInT, rInK, rIxK, rExtendT, rSlU, rCatU, V.int.injEq, V.str.injEq, V.bl.injEq, V.ref.injEq, exists_eq_left', exists_eq_left, Bool.false_bne, Bool.false_xor, Bool.true_xor]); (try walk_at "rd")))
theorem iteY {c : Bool} {A B : Prop} (h : c = true) (a : A) : if c = true then A else B := by rw [if_pos h]; exact a
theorem iteN {c : Bool} {A B : Prop} (h : c = false) (b : B) : if c = true then A else B := by rw [if_neg (by rw [h]; exact Bool.false_ne_true)]; exact b
theorem line_le' {n : Nat} (h : n ≤ 1000000) : n ≤ sizeLine := by
  rw [sizeLine_eq]
  omega
/-! ## terms, on data -/
def leavesL : List Str := ["look", "const", "num"]
def flaggedL : List Str := ["sum", "less", "twice"]
def flagsL : List Str := ["", "u", "s", "us"]
def compL : List Str := ["same", "below", "under"]
def cntL : List (Str × Int) := [("look", 0), ("const", 0), ("num", 0), ("sum", 2), ("less", 2), ("twice", 1), ("and", 2), ("or", 2), ("xor", 2), ("not", 1), ("times", 2), ("quot", 2), ("rest", 2), ("left", 2), ("right", 2), ("froze", 1), ("choice", 4)]
def cnt (z : Str) : Option Int := (cntL.find? fun p => p.1 == z).map (·.2)
def nameD : PyData → Bool
  | .str s => isName (.str s)
  | _ => false
def wholeD : PyData → Bool
  | .int _ => true
  | _ => false
def numD : PyData → Bool
  | .int i => decide (-99 ≤ i) && decide (i ≤ 99)
  | _ => false
def amongD (l : List Str) : PyData → Bool
  | .str s => decide (s ∈ l)
  | _ => false
def leafD (h : Str) (d : PyData) : Bool := if h = "num" then numD d else nameD d
def triD (l : List Str) : PyData → Bool
  | .tuple [h, _, _] => amongD l h
  | _ => false
def shapeT (h : Str) (r : List PyData) : Bool := match cnt h with
  | none => false
  | some c =>
    if h ∈ leavesL then decide (r.length = 1) && leafD h (r.headD .none)
    else if h = "choice" then decide (r.length = 3) && triD compL (r.headD .none)
    else if h ∈ flaggedL then decide ((r.length : Int) = 1 + c) && amongD flagsL (r.headD .none)
    else decide ((r.length : Int) = c)
def shapeD : PyData → Bool
  | .tuple (.str h :: r) => shapeT h r
  | _ => false
def behind : PyData → List PyData
  | .tuple ts => ts.drop 1
  | _ => []
def partsT (h : Str) (r : List PyData) : List PyData :=
  if h ∈ leavesL then [] else if h = "choice" then behind (r.headD .none) ++ r.drop 1 else if h ∈ flaggedL then r.drop 1 else r
def partsD : PyData → List PyData
  | .tuple (.str h :: r) => partsT h r
  | _ => []
mutual
def sz : PyData → Nat
  | .tuple l => 1 + szL l
  | _ => 1
def szL : List PyData → Nat
  | [] => 0
  | d :: l => sz d + szL l
end
mutual
/-- its texts are such as may be asked -/
def fine : PyData → Bool
  | .str s => decide (s.length ≤ 100000) && PyData.strOk s
  | .tuple l => decide (l.length ≤ 100000) && fineL l
  | _ => true
def fineL : List PyData → Bool
  | [] => true
  | d :: l => fine d && fineL l
end
theorem sz_pos : ∀ d : PyData, 1 ≤ sz d := by
  intro d
  cases d <;> simp [sz]
theorem szL_append : ∀ a b : List PyData, szL (a ++ b) = szL a + szL b
  | [], b => by simp [szL]
  | x :: a, b => by
    rw [List.cons_append, szL, szL, szL_append a b]
    omega
theorem szL_drop (a : List PyData) : szL (a.drop 1) ≤ szL a := by
  cases a with
  | nil => exact Nat.le_refl _
  | cons x a => simp [szL]
theorem szL_len : ∀ a : List PyData, a.length ≤ szL a
  | [] => Nat.le_refl _
  | x :: a => by
    have h := szL_len a
    have h1 := sz_pos x
    simp only [List.length_cons, szL]
    omega
theorem sz_behind (d : PyData) : szL (behind d) ≤ sz d := by
  cases d with
  | tuple ts =>
    have h := szL_drop ts
    simp only [behind, sz]
    omega
  | _ => simp [behind, szL]
theorem sz_parts (d : PyData) : szL (partsD d) < sz d := by
  have hp := sz_pos d
  unfold partsD
  split
  · next h r =>
    simp only [sz, szL]
    have e : szL (partsT h r) ≤ szL r := by
      unfold partsT
      split
      · exact Nat.zero_le _
      · split
        · rw [szL_append]
          cases r with
          | nil => simp [behind, szL]
          | cons x r =>
            have := sz_behind x
            simp only [List.headD_cons, szL, List.drop_succ_cons, List.drop_zero]
            omega
        · split
          · exact szL_drop r
          · exact Nat.le_refl _
    omega
  · simp only [szL]
    omega
def isTf : Nat → PyData → Bool
  | 0, _ => false
  | n + 1, d => shapeD d && (partsD d).all (isTf n)
def isTD (d : PyData) : Bool := isTf (sz d) d
theorem sz_mem : ∀ {l : List PyData} {p : PyData}, p ∈ l → sz p ≤ szL l
  | x :: l, p, h => by
    rcases List.mem_cons.mp h with rfl | h
    · simp [szL]
    · have := sz_mem h
      simp only [szL]
      omega
theorem isTf_more : ∀ (n : Nat) (d : PyData), sz d ≤ n → ∀ m, sz d ≤ m → isTf n d = isTf m d
  | 0, d, h, _, _ => absurd (sz_pos d) (by omega)
  | n + 1, d, h, 0, h' => absurd (sz_pos d) (by omega)
  | n + 1, d, h, m + 1, h' => by
    unfold isTf
    congr 1
    have hp := sz_parts d
    have e : ∀ l : List PyData, szL l ≤ n → szL l ≤ m → l.all (isTf n) = l.all (isTf m) := by
      intro l
      induction l with
      | nil => intro _ _; rfl
      | cons x l ih =>
        intro h1 h2
        simp only [szL] at h1 h2
        have hx := sz_pos x
        rw [List.all_cons, List.all_cons, ih (by omega) (by omega), isTf_more n x (by omega) m (by omega)]
    exact e _ (by omega) (by omega)
theorem isTD_eq (d : PyData) : isTD d = (shapeD d && (partsD d).all isTD) := by
  have hp := sz_parts d
  have h1 := sz_pos d
  obtain ⟨n, e⟩ : ∃ n, sz d = n + 1 := ⟨sz d - 1, by omega⟩
  show isTf (sz d) d = _
  rw [e, isTf]
  congr 1
  have e : ∀ l : List PyData, szL l ≤ n → l.all (isTf n) = l.all isTD := by
    intro l
    induction l with
    | nil => intro _; rfl
    | cons x l ih =>
      intro h2
      simp only [szL] at h2
      rw [List.all_cons, List.all_cons, ih (by omega), isTf_more n x (by omega) (sz x) (Nat.le_refl _)]
      rfl
  exact e _ (by omega)
theorem fineL_mem : ∀ {l : List PyData} {p : PyData}, fineL l = true → p ∈ l → fine p = true
  | x :: l, p, h, m => by
    simp only [fineL, Bool.and_eq_true] at h
    rcases List.mem_cons.mp m with rfl | m
    · exact h.1
    · exact fineL_mem h.2 m
theorem fineL_of : ∀ {l : List PyData}, (∀ p ∈ l, fine p = true) → fineL l = true
  | [], _ => rfl
  | x :: l, h => by
    simp only [fineL, Bool.and_eq_true]
    exact ⟨h x List.mem_cons_self, fineL_of fun p hp => h p (List.mem_cons_of_mem _ hp)⟩
theorem fine_behind {d p : PyData} (h : fine d = true) (m : p ∈ behind d) : fine p = true := by
  cases d with
  | tuple ts =>
    simp only [fine, Bool.and_eq_true] at h
    exact fineL_mem h.2 (List.mem_of_mem_drop m)
  | _ => exact absurd m List.not_mem_nil
theorem fine_parts {d p : PyData} (h : fine d = true) (m : p ∈ partsD d) : fine p = true := by
  unfold partsD at m
  split at m
  · next z r =>
    simp only [fine, fineL, Bool.and_eq_true] at h
    obtain ⟨h1, h2, h3⟩ := h
    unfold partsT at m
    split at m
    · exact absurd m List.not_mem_nil
    · split at m
      · rcases List.mem_append.mp m with m | m
        · cases r with
          | nil => exact absurd m List.not_mem_nil
          | cons x r => exact fine_behind (fineL_mem h3 List.mem_cons_self) m
        · exact fineL_mem h3 (List.mem_of_mem_drop m)
      · split at m
        · exact fineL_mem h3 (List.mem_of_mem_drop m)
        · exact fineL_mem h3 m
  · exact absurd m List.not_mem_nil
def clsD : PyData → String
  | .bool _ => "bool"
  | .int _ => "int"
  | .str _ => "str"
  | .list _ => "list"
  | .tuple _ => "tuple"
  | .dict _ => "dict"
  | _ => "NoneType"
def isIntD : PyData → Bool
  | .int _ => true
  | _ => false
def isBoolD : PyData → Bool
  | .bool _ => true
  | _ => false
def isStrD : PyData → Bool
  | .str _ => true
  | _ => false
def isTupD : PyData → Bool
  | .tuple _ => true
  | _ => false
theorem Dv.ty {K : PySem.W.Frag} {H : Hp} {x : V} {d : PyData} (h1 : Dv H x d) : TyX K H x (.type (clsD d)) := by
  cases h1 with
  | non => exact .base .non
  | bl b => exact .base (.bl b)
  | int n => exact .base (.int n)
  | str s => exact .base (.str s)
  | lst e _ => exact .base (.lst e)
  | tup e _ => exact .base (.tup e)
  | dic e _ => exact .base (.dK e)
theorem kit_int {H : Hp} {x : V} {d : PyData} (h1 : Dv H x d) : kitB (clsD d) "int" = some (isIntD d || isBoolD d) := by
  cases h1 <;> (simp only [clsD, isIntD, isBoolD, isStrD, isTupD]; decide +kernel)
theorem kit_bool {H : Hp} {x : V} {d : PyData} (h1 : Dv H x d) : kitB (clsD d) "bool" = some (isBoolD d) := by
  cases h1 <;> (simp only [clsD, isIntD, isBoolD, isStrD, isTupD]; decide +kernel)
theorem kit_str {H : Hp} {x : V} {d : PyData} (h1 : Dv H x d) : kitB (clsD d) "str" = some (isStrD d) := by
  cases h1 <;> (simp only [clsD, isIntD, isBoolD, isStrD, isTupD]; decide +kernel)
theorem kit_tup {H : Hp} {x : V} {d : PyData} (h1 : Dv H x d) : kitB (clsD d) "tuple" = some (isTupD d) := by
  cases h1 <;> (simp only [clsD, isIntD, isBoolD, isStrD, isTupD]; decide +kernel)
theorem Dv.name {H : Hp} {x : V} {d : PyData} (h : Dv H x d) : isName x = nameD d := by
  cases h <;> rfl
theorem Dv.among {H : Hp} {x : V} {d : PyData} (h : Dv H x d) (l : List Str) : among l x = amongD l d := by
  cases h <;> rfl
theorem DvAll.drop {H : Hp} : ∀ {n : Nat} {vs : List V} {ds : List PyData}, DvAll H vs ds → DvAll H (vs.drop n) (ds.drop n)
  | 0, _, _, h => h
  | n + 1, _, _, .nil => .nil
  | n + 1, _, _, .cons _ t => DvAll.drop (n := n) t
theorem DvAll.append {H : Hp} : ∀ {vs ws : List V} {ds es : List PyData}, DvAll H vs ds → DvAll H ws es → DvAll H (vs ++ ws) (ds ++ es)
  | _, _, _, _, .nil, h => h
  | _, _, _, _, .cons a t, h => .cons a (t.append h)
theorem cutV_from (xs : List V) (n : Nat) : cutV xs (some (n : Int)) none = xs.drop n := by
  unfold cutV
  rw [HT.sIx_none, HT.sIx_nat]
  by_cases h : n ≤ xs.length
  · rw [Nat.min_eq_left h, List.take_of_length_le (by rw [List.length_drop]; exact Nat.le_refl _)]
  · rw [Nat.min_eq_right (by omega), List.drop_of_length_le (by omega : xs.length ≤ xs.length), List.drop_of_length_le (by omega : xs.length ≤ n)]
    simp
theorem all1 {H : Hp} {xs : List V} {ds : List PyData} (h : DvAll H xs ds) (l : ds.length = 1) : ∃ x d, xs = [x] ∧ ds = [d] ∧ Dv H x d := by
  cases h with
  | nil => cases l
  | cons h0 t =>
    cases t with
    | nil => exact ⟨_, _, rfl, rfl, h0⟩
    | cons _ _ => simp at l
theorem all3 {H : Hp} {xs : List V} {ds : List PyData} (h : DvAll H xs ds) (l : ds.length = 3) : ∃ x y z d e f, xs = [x, y, z] ∧ ds = [d, e, f] ∧ Dv H x d ∧ Dv H y e ∧ Dv H z f := by
  cases h with
  | nil => cases l
  | cons h0 t =>
    cases t with
    | nil => simp at l
    | cons h1 t =>
      cases t with
      | nil => simp at l
      | cons h2 t =>
        cases t with
        | nil => exact ⟨_, _, _, _, _, _, rfl, rfl, h0, h1, h2⟩
        | cons _ _ => simp at l
theorem cnt_nn {h : Str} {c : Int} (e : cnt h = some c) : 0 ≤ c := by
  unfold cnt at e
  obtain ⟨p, e1, rfl⟩ := Option.map_eq_some_iff.mp e
  have := List.mem_of_find?_eq_some e1
  exact (show ∀ p ∈ cntL, 0 ≤ p.2 by decide +kernel) p this
theorem Same.seqT {K : PySem.W.Frag} {H H' : Hp} {a : Addr} {xs : List V} (e : Same H H') (h : SqT K H a xs) : SqT K H' a xs := by
  rcases h with (h | ⟨o, h⟩) | h
  · exact .inl (.inl (e _ _ h))
  · exact .inl (.inr ⟨o, e _ _ h⟩)
  · exact .inr h
theorem at0 {x : V} {xs : List V} : atI (x :: xs) 0 = some x := by
  unfold atI ixN
  rw [if_pos (Int.le_refl 0), if_pos (by simp only [List.length_cons]; omega)]
  rfl
theorem at1 {x y : V} {xs : List V} : atI (x :: y :: xs) 1 = some y := by
  unfold atI ixN
  rw [if_pos (by decide), if_pos (by simp only [List.length_cons]; omega)]
  rfl
theorem cutV1 (xs : List V) : cutV xs (some 1) none = xs.drop 1 := cutV_from xs 1
theorem cutV2 (xs : List V) : cutV xs (some 2) none = xs.drop 2 := cutV_from xs 2
end Vf
namespace Vf
open PySem L2 PyProof.Rows PySem.Spec

local macro_rules | `(tactic| walk_at "rd") => `(tactic| simp only [tSeq, tIfS, tOr, tAnd, tNot, tB, tTest, tChain, tCB, tCons, tNil, tVar, tC, tRet, tAndV, tOrV, tNotV, tOp, tNext, tDrop, tAsg, tPar, tYes, tIf, tCall, tCalK, tTup, tLst, tSl, tNoPart, tPart, tM0, tM1, tRevL, tBM0, tBM, gName, rI0, rI, rU, rInA, rEqA, rAddA, rMulA, rSlAny, iAny, rIsi, rAll, rAny, rSum, rList, rTuple, rLen, rLenS, rLenSeq, rMulS, CDiv, rIn, rEqD, rNeD, iList, iTup, iStr, rCat, rCatA, rSlL, rSlA, rSlS, gSub, rPop, rAppend, rSetL, rIx, rIxL, rIxT, rIxS, LenV,
  L2.start, List.map_cons, List.map_nil, List.length_cons, List.length_nil, List.cons_append, List.nil_append, List.append_nil, Nat.zero_add, Nat.add_sub_cancel, Nat.sub_self, List.replicate_succ, List.replicate_zero, List.getElem?_cons_zero, List.getElem?_cons_succ, List.set_cons_zero, List.set_cons_succ,
  Option.some.injEq, V.int.injEq, V.str.injEq, V.bl.injEq, V.ref.injEq, List.cons.injEq, and_true, true_and, exists_eq_left', exists_eq_left, exists_eq_right, exists_and_left, exists_and_right, false_or, or_false, reduceCtorEq, false_and, and_false, exists_false, Bool.not_true, Bool.not_false, if_true, if_false, Bool.false_eq_true, ite_true, ite_false])
/-- a deck: its own list of what is left, its sum, its turn -/
structure Deck (H : Hp) (d c : Addr) : Prop where
  ne : c ≠ d
  own : ∃ t n : Int, H d = some (.lst [.ref c, .int t, .int n])
  cells : ∃ ns : List Int, H c = some (.lst (ns.map V.int)) ∧ ns.length ≤ 63
/-- all but the deck stays -/
def Sv (d c : Addr) (H H' : Hp) : Prop := ∀ b o, H b = some o → b ≠ d → b ≠ c → H' b = some o
theorem ne_upd {H : Hp} {p a : Addr} {o u : HO} (h : H p = none) (e : H a = some o) : (upd H p u) a = some o := same_upd h _ _ e
theorem dp_ints {K : PySem.W.Frag} {H : Hp} : ∀ ns : List Int, DpAll K H (ns.map V.int) (ns.map PyData.int)
  | [] => .nil
  | n :: ns => .cons (.int n) (dp_ints ns)
theorem list_end {α : Type} (l : List α) : l = [] ∨ ∃ r z, l = r ++ [z] := by
  rcases List.eq_nil_or_concat l with e | ⟨r, z, e⟩
  · exact .inl e
  · exact .inr ⟨r, z, by rw [e, List.concat_eq_append]⟩
theorem lay_ints : ∀ ns : List Int, PyData.canLayAll0 (ns.map PyData.int) = true ∧ PyData.depthAll (ns.map PyData.int) = 0
  | [] => ⟨rfl, rfl⟩
  | n :: ns => by
    obtain ⟨h1, h2⟩ := lay_ints ns
    simp [PyData.canLayAll0, PyData.canLay0, PyData.depthAll, PyData.depth, h1, h2]
theorem shaped_ints (ns : List Int) : SeqAt.shaped (.list (ns.map PyData.int)) = true := by
  obtain ⟨h1, h2⟩ := lay_ints ns
  simp [SeqAt.shaped, PyData.canLay0, PyData.depth, h1, h2]
theorem Sv.refl (d c : Addr) (H : Hp) : Sv d c H H := fun _ _ e _ _ => e
theorem Sv.trans {d c : Addr} {H H1 H2 : Hp} (a : Sv d c H H1) (b : Sv d c H1 H2) : Sv d c H H2 := fun x o e n1 n2 => b x o (a x o e n1 n2) n1 n2
theorem Sv.new {d c p : Addr} {H H1 : Hp} {o : HO} (a : Sv d c H H1) (n : H1 p = none) : Sv d c H (upd H1 p o) := fun x u e n1 n2 => same_upd n _ _ (a x u e n1 n2)
theorem Sv.deck {d c : Addr} {H H1 : Hp} {o : HO} (a : Sv d c H H1) : Sv d c H (upd H1 d o) := fun x u e n1 n2 => by
  rw [upd_ne n1]
  exact a x u e n1 n2
theorem Sv.cell {d c : Addr} {H H1 : Hp} {o : HO} (a : Sv d c H H1) : Sv d c H (upd H1 c o) := fun x u e n1 n2 => by
  rw [upd_ne n2]
  exact a x u e n1 n2
theorem Same.sv {d c : Addr} {H H1 : Hp} (a : Same H H1) : Sv d c H H1 := fun x u e _ _ => a x u e
section
variable {P : Program} {w : World} {K : PySem.W.Frag} {mg : Str → Option Value} {base : Heap}
def spDraw : Sp := fun vs H Q _ => ∃ (d c : Addr) (m : Int), vs = [.ref d, .int m] ∧ Deck H d c ∧ 0 < m ∧ m < 1073741824 ∧ ∀ (r : Int) (H' : Hp), 0 ≤ r → r < m → Deck H' d c → Sv d c H H' → Q (.int r) H'
abbrev s__law_draw : Stmt := top 9
theorem sc__law_draw : FnScope ["_law_deck_here", "_law_many", "_law_cell", "_law_mixed"] ["_law_deck_here", "_law_many"] (defScope s__law_draw) := ⟨rfl, rfl, rfl, by decide +kernel, rfl, by decide +kernel, by decide +kernel⟩
theorem ok__law_draw {f : Addr} {fd : FuncData} (D : Df K mg "_law_draw" s__law_draw f fd) (T : Tx K mg) : Cal P w K mg base "_law_draw" ["_law_deck_here", "_law_many"] 1 spDraw := by
  refine D.cal sc__law_draw (fun vs H Q E h => ?_) (fun _ _ _ _ _ _ us hl => match us, hl with | [_, _], _ => rfl) (fun cdv A outer s H vs Q E hgu hr h => ?_)
  · obtain ⟨d, c, m, rfl, _⟩ := h
    rfl
  · obtain ⟨d, c, m, rfl, ⟨ne, ⟨t, n, hd⟩, ⟨ns, hc, hn⟩⟩, m0, m1, q⟩ := h
    refine ⟨_, (pss_cons (ps_asg (pe_op op_add (pe_ix (aIxL (K := K) rfl) (pv 0) pe_int (fun _ _ => rfl)) pe_int) (pg_sub (pv 0) pe_int set_list)) (pss_cons (ps_set (i := 2) sc__law_draw.nd rfl (by first | exact Or.inl rfl | exact Or.inr rfl) (pe_ix (aIxL (K := K) rfl) (pv 0) pe_int (fun _ _ => rfl))) (pss_cons (ps_if (pt_cmpR (aNeD (K := K) rfl hr.units) (pe_ix (aIxL (K := K) rfl) (pv 0) pe_int (fun _ _ => rfl)) (pe_lst pa_nil) (by rfl)) (pss_cons (ps_set (i := 2) sc__law_draw.nd rfl (by first | exact Or.inl rfl | exact Or.inr rfl) (pe_bm0 PySem.F.plainAttrs_list PySem.F.slot_list_pop PySem.F.type_list_pop mt_pop (pe_ix (aIxL (K := K) rfl) (pv 0) pe_int (fun _ _ => rfl)))) (pss_one (ps_if (pt_cmpR op_ge (pv 2) (pe_op op_pow pe_int pe_int) (by rfl)) (pss_cons (ps_expr (pe_bm PySem.F.plainAttrs_list PySem.F.slot_list_append PySem.F.type_list_append mt_append (pe_ix (aIxL (K := K) rfl) (pv 0) pe_int (fun _ _ => rfl)) (pa_cons (pe_op op_fdiv (pv 2) (pv 1)) pa_nil))) (pss_one (ps_ret (pe_op op_mod (pv 2) (pv 1))))) pss_nil))) pss_nil) (pss_cons (ps_set (i := 3) sc__law_draw.nd rfl (by first | exact Or.inl rfl | exact Or.inr rfl) (pe_op op_mod (pe_op op_mul (pe_op op_add (pe_op op_add (pe_op op_mod (pv 2) pe_int) (pe_op op_mul pe_int (pe_ix (aIxL (K := K) rfl) (pv 0) pe_int (fun _ _ => rfl)))) pe_int) pe_int) pe_int)) (pss_cons (ps_set (i := 3) sc__law_draw.nd rfl (by first | exact Or.inl rfl | exact Or.inr rfl) (pe_op op_mod (pe_op op_add (pe_op op_add (pe_op op_mul (pv 3) (pv 3)) (pe_op op_mul pe_int (pe_ix (aIxL (K := K) rfl) (pv 0) pe_int (fun _ _ => rfl)))) pe_int) pe_int)) (pss_one (ps_ret (pe_op op_mod (pe_op op_fdiv (pe_op op_mod (pe_op op_add (pe_op op_mul (pv 3) (pv 3)) (pe_op op_mul pe_int (pv 3))) pe_int) pe_int) (pv 1))))))))), ?_⟩
    walk_at "rd"
    refine ⟨_, .of hd, .int n, rfl, n, rfl, _, hd, 2, rfl, _, .of upd_same, .int t, rfl, _, .of upd_same, .ref c, rfl, Nat.zero_le _, fun p hp => ?_⟩
    change upd H d (.lst [V.ref c, .int t, .int (n + 1)]) p = none at hp
    have hc1 : (upd H d (.lst [V.ref c, .int t, .int (n + 1)])) c = some (.lst (ns.map V.int)) := by rw [upd_ne ne]; exact hc
    have hc2 := ne_upd (u := .lst []) hp hc1
    have hd2 := ne_upd (u := .lst []) hp (upd_same (H := H) (a := d) (o := .lst [V.ref c, .int t, .int (n + 1)]))
    have npc : p ≠ c := fun e => by rw [e, hc1] at hp; cases hp
    have npd : p ≠ d := fun e => by rw [e, upd_same] at hp; cases hp
    have sv : Sv d c H (upd (upd H d (.lst [V.ref c, .int t, .int (n + 1)])) p (.lst [])) := (Sv.refl d c H).deck.new hp
    refine ⟨_, .lst (.of hc2) (dp_ints ns), _, .lst (.of upd_same) .nil, shaped_ints ns, rfl, ?_⟩
    have hm : ∀ a b : Int, 0 < b → b < 2 ^ 64 → CMul (a % b) (a % b) := fun a b b0 b1 => .inl ⟨by have := Int.emod_nonneg a (show b ≠ 0 by omega); omega, by have := Int.emod_lt_of_pos a b0; omega⟩
    have hq : ∀ (r : Int) (H3 : Hp) (ms : List Int), H3 d = some (.lst [V.ref c, .int t, .int (n + 1)]) → H3 c = some (.lst (ms.map V.int)) → ms.length ≤ 63 → Sv d c H H3 → Q (.int (r % m)) H3 := fun r H3 ms e1 e2 l s =>
      q _ H3 (Int.emod_nonneg r (by omega)) (Int.emod_lt_of_pos r m0) ⟨ne, ⟨_, _, e1⟩, ⟨ms, e2, l⟩⟩ s
    rcases list_end ns with rfl | ⟨ns', z, rfl⟩
    · rw [if_neg (by decide)]
      refine ⟨_, rfl, by decide, _, .of hd2, _, rfl, n + 1, rfl, .inl (by decide), .inr (by decide), by decide, hm _ _ (by decide) (by decide), _, .of hd2, _, rfl, n + 1, rfl, .inl (by decide), by decide, hm _ _ (by decide) (by decide), .inl (by decide), by decide, by decide, m0, ?_⟩
      exact hq _ _ [] hd2 hc2 (by decide) sv
    · rw [if_pos (by cases ns' <;> rfl)]
      have e1 : (ns' ++ [z]).map V.int = ns'.map V.int ++ [V.int z] := by simp
      rw [List.length_append] at hn
      have hn' : ns'.length + 1 ≤ 63 := hn
      refine ⟨_, .of hd2, _, rfl, .inl ⟨rfl, _, .of hc2⟩, c, rfl, _, hc2, .int z, by rw [e1]; simp, ⟨by decide, by decide, by decide⟩, z, rfl, ?_⟩
      have e2 : ((ns' ++ [z]).map V.int).dropLast = ns'.map V.int := by rw [e1]; simp
      rw [e2]
      have sv2 := sv.cell (o := .lst (ns'.map V.int))
      have hd3 : (upd (upd (upd H d (.lst [V.ref c, .int t, .int (n + 1)])) p (.lst [])) c (.lst (ns'.map V.int))) d = some (.lst [V.ref c, .int t, .int (n + 1)]) := by
        rw [upd_ne ne.symm]
        exact hd2
      by_cases hz : (10 : Int) ^ (18 : Int).toNat ≤ z
      · rw [if_pos (decide_eq_true hz)]
        refine ⟨_, .of hd3, _, rfl, .inl ⟨rfl, _, .of upd_same⟩, z, rfl, ⟨m0, m1⟩, c, rfl, _, upd_same, by rw [List.length_map]; exact small1000 (by omega), z, rfl, m0, ?_⟩
        refine hq _ _ (ns' ++ [z / m]) ?_ ?_ (by rw [List.length_append]; exact hn') sv2.cell
        · rw [upd_ne ne.symm]
          exact hd3
        · rw [upd_same]
          simp
      · rw [if_neg (by rw [decide_eq_false hz]; decide)]
        refine ⟨_, rfl, by decide, _, .of hd3, _, rfl, n + 1, rfl, .inl (by decide), .inr (by decide), by decide, hm _ _ (by decide) (by decide), _, .of hd3, _, rfl, n + 1, rfl, .inl (by decide), by decide, hm _ _ (by decide) (by decide), .inl (by decide), by decide, by decide, m0, ?_⟩
        exact hq _ _ ns' hd3 upd_same (by omega) sv2
end
end Vf
namespace Vf
open PySem L2 PyProof.Rows PySem.Spec

local macro_rules | `(tactic| walk_at "rd") => `(tactic| simp only [tSeq, tIfS, tOr, tAnd, tNot, tB, tTest, tChain, tCB, tCons, tNil, tVar, tC, tRet, tAndV, tOrV, tNotV, tOp, tNext, tDrop, tAsg, tPar, tYes, tIf, tCall, tCalK, tTup, tLst, tSl, tNoPart, tPart, tM0, tM1, tRevL, tBM0, tBM, gName, rI0, rI, rU, rInA, rEqA, rAddA, rMulA, rSlAny, iAny, rIsi, rAll, rAny, rSum, rList, rTuple, rLen, rLenS, rLenSeq, rMulS, CDiv, rIn, rEqD, rNeD, iList, iTup, iStr, rCat, rCatA, rSlL, rSlA, rSlS, gSub, rPop, rAppend, rSetL, rIx, rIxL, rIxT, rIxS, LenV,
  L2.start, List.map_cons, List.map_nil, List.length_cons, List.length_nil, List.cons_append, List.nil_append, List.append_nil, Nat.zero_add, Nat.add_sub_cancel, Nat.sub_self, List.replicate_succ, List.replicate_zero, List.getElem?_cons_zero, List.getElem?_cons_succ, List.set_cons_zero, List.set_cons_succ,
  Option.some.injEq, V.int.injEq, V.str.injEq, V.bl.injEq, V.ref.injEq, List.cons.injEq, and_true, true_and, exists_eq_left', exists_eq_left, exists_eq_right, exists_and_left, exists_and_right, false_or, or_false, reduceCtorEq, false_and, and_false, exists_false, Bool.not_true, Bool.not_false, if_true, if_false, Bool.false_eq_true, ite_true, ite_false])
theorem line_le {n : Nat} (h : n ≤ 1000000) : n ≤ sizeLine := by
  rw [sizeLine_eq]
  omega
theorem atI_in {α : Type} {xs : List α} {i : Int} (h0 : 0 ≤ i) (h1 : i < xs.length) : ∃ x, atI xs i = some x ∧ x ∈ xs := by
  have h2 : i.toNat < xs.length := by omega
  refine ⟨xs[i.toNat], ?_, List.getElem_mem h2⟩
  unfold atI ixN
  rw [if_pos h0, if_pos h1]
  exact List.getElem?_eq_getElem h2
theorem cutV_to (xs : List V) (n : Nat) : cutV xs none (some (n : Int)) = xs.take n := by
  unfold cutV
  rw [HT.sIx_none, HT.sIx_nat, List.drop_zero, Nat.sub_zero]
  by_cases h : n ≤ xs.length
  · rw [Nat.min_eq_left h]
  · rw [Nat.min_eq_right (by omega), List.take_of_length_le (by omega), List.take_of_length_le (by omega)]
def modV (x : V) : V := match x with
  | .int i => .int (i % 1000003)
  | _ => .non
theorem dp_strs {K : PySem.W.Frag} {H : Hp} : ∀ l : List Str, DpAll K H (l.map V.str) (l.map PyData.str)
  | [] => .nil
  | x :: l => .cons (.str x) (dp_strs l)
theorem lay_strs : ∀ l : List Str, (∀ x ∈ l, PyData.strOk x = true) → PyData.canLayAll0 (l.map PyData.str) = true ∧ PyData.depthAll (l.map PyData.str) = 0
  | [], _ => ⟨rfl, rfl⟩
  | x :: l, h => by
    obtain ⟨h1, h2⟩ := lay_strs l fun y hy => h y (List.mem_cons_of_mem _ hy)
    have h0 := h x List.mem_cons_self
    simp [PyData.canLayAll0, PyData.canLay0, PyData.depthAll, PyData.depth, h1, h2, h0]
theorem shaped_strs (l : List Str) (h : ∀ x ∈ l, PyData.strOk x = true) : SeqAt.shaped (.list (l.map PyData.str)) = true := by
  obtain ⟨h1, h2⟩ := lay_strs l h
  simp [SeqAt.shaped, PyData.canLay0, PyData.depth, h1, h2]
theorem eqv_nil (l : List Str) : PyData.eqv (.list (l.map PyData.str)) (.list []) = l.isEmpty := by
  cases l <;> rfl
section
variable {P : Program} {w : World} {K : PySem.W.Frag} {mg : Str → Option Value} {base : Heap}
def spDeck (K : PySem.W.Frag) : Sp := fun vs H Q _ => ∃ (a : Addr) (ns : List Int), vs = [.ref a] ∧ SqL K H a (ns.map V.int) ∧ ns.length ≤ 63 ∧ ∀ (d c : Addr) (H' : Hp), Same H H' → H d = none → H c = none → Deck H' d c → Q (.ref d) H'
abbrev s__law_deck : Stmt := top 8
theorem sc__law_deck : FnScope ["_law_script", "_law_cells", "_law_cell"] ["_law_script"] (defScope s__law_deck) := ⟨rfl, rfl, rfl, by decide +kernel, rfl, by decide +kernel, by decide +kernel⟩
theorem ok__law_deck {f : Addr} {fd : FuncData} (D : Df K mg "_law_deck" s__law_deck f fd) (T : Tx K mg) : Cal P w K mg base "_law_deck" ["_law_script"] 1 (spDeck K) := by
  refine D.cal sc__law_deck (fun vs H Q E h => ?_) (fun _ _ _ _ _ _ us hl => match us, hl with | [_], _ => rfl) (fun cdv A outer s H vs Q E hgu hr h => ?_)
  · obtain ⟨a, ns, rfl, _⟩ := h
    rfl
  · obtain ⟨a, ns, rfl, ha, hn, q⟩ := h
    refine ⟨_, (pss_cons (ps_set (i := 1) sc__law_deck.nd rfl (by first | exact Or.inl rfl | exact Or.inr rfl) (pe_callTy (aList (K := K) rfl) (by rfl) T.list (by decide +kernel) (pa_cons (pe_slice (aSlL (K := K) rfl) (pv 0) po_none (po_some pe_int)) pa_nil))) (pss_one (ps_ret (pe_lst (pa_cons (aRev (K := K) rfl (pv 1)) (pa_cons (pe_op op_add (pe_callB (aSum (K := K) rfl rfl) (by rfl) T.sum (by decide +kernel) (pa_cons (pe_lc (own := [("_law_cell", 2)]) (g := gName 2) (tt := tYes) (by rfl) sc__law_deck.nd (aWalkL (K := K) rfl (pv 1)) (blkOk_by (own := [("_law_cell", 2)]) (N := ["_law_script", "_law_cells", "_law_cell"]) (sc := defScope s__law_deck) (by decide +kernel)) (fun _ _ _ _ _ => (pg_name (i := 2) sc__law_deck.nd rfl (Or.inl rfl))) (fun _ _ _ _ _ => pts_nil) (fun _ _ _ _ _ => (pe_op op_mod (pv 2) pe_int))) pa_nil)) (pe_op op_mul pe_int (pe_callB (aLenSeq (K := K) rfl) (by rfl) T.len (by decide +kernel) (pa_cons (pv 1) pa_nil)))) (pa_cons pe_int pa_nil))))))), ?_⟩
    walk_at "rd"
    have ec : cutV (ns.map V.int) none (some 63) = ns.map V.int := by
      rw [show (63 : Int) = ((63 : Nat) : Int) from rfl, cutV_to, List.take_of_length_le (by rw [List.length_map]; exact hn)]
    refine ⟨_, ha, fun p hp => ⟨_, .inl (.of upd_same), fun l hl => ⟨_, .of upd_same, fun r hr => ?_⟩⟩⟩
    rw [ec] at hl hr ⊢
    have s1 := same_upd (o := .lst (ns.map V.int)) hp
    have s2 := s1.trans (same_upd (o := .lst (ns.map V.int)) hl)
    have s3 := s2.trans (same_upd (o := .lst (ns.map V.int).reverse) hr)
    have hl3 := ne_upd (u := .lst (ns.map V.int).reverse) hr (upd_same (H := upd H p (.lst (ns.map V.int))) (a := l) (o := .lst (ns.map V.int)))
    refine ⟨.ref l, rfl, l, rfl, ⟨_, .of hl3⟩, fun L hL => lc_pure (steps_list K l (ns.map V.int)) (fun _ => true) modV (fun acc => seqL_upd hL (.of hl3)) (line_le (by rw [List.length_map]; omega)) ?_ ?_ ?_ ?_⟩
    · exact fun _ => rfl
    · exact fun x _ acc R r => r
    · intro x hm _ acc R r
      obtain ⟨i, _, rfl⟩ := List.mem_map.mp hm
      exact ⟨_, rfl, _, _, rfl, rfl, show (0 : Int) < 1000003 by decide, r⟩
    · have em : (((ns.map V.int).filter fun _ => true).map modV) = (ns.map (· % 1000003)).map V.int := by
        rw [List.filter_eq_self.mpr fun _ _ => rfl, List.map_map, List.map_map]
        rfl
      have hl4 := ne_upd (u := .lst (((ns.map V.int).filter fun _ => true).map modV)) hL hl3
      refine ⟨L, rfl, ns.map (· % 1000003), .of (by rw [upd_same, em]), _, .inl (.of hl4), .inl (by decide), line_le (by decide), fun z hz => ?_⟩
      have s4 := s3.trans (same_upd (o := .lst (((ns.map V.int).filter fun _ => true).map modV)) hL)
      have hr4 := ne_upd (u := .lst (((ns.map V.int).filter fun _ => true).map modV)) hL (upd_same (H := upd (upd H p (.lst (ns.map V.int))) l (.lst (ns.map V.int))) (a := r) (o := .lst (ns.map V.int).reverse))
      refine q z r _ (s4.trans (same_upd hz)) (s4.free hz) (s2.free hr) ⟨fun e => ?_, ⟨_, _, upd_same⟩, ⟨ns.reverse, ?_, by rw [List.length_reverse]; exact hn⟩⟩
      · rw [← e, hr4] at hz
        cases hz
      · rw [List.map_reverse]
        exact ne_upd hz hr4
abbrev s__law_pick : Stmt := top 10
theorem sc__law_pick : FnScope ["_law_deck_here", "_law_some"] ["_law_deck_here", "_law_some"] (defScope s__law_pick) := ⟨rfl, rfl, rfl, by decide +kernel, rfl, by decide +kernel, by decide +kernel⟩
end
end Vf
set_option backward.eqns.nonrecursive true
namespace Vf
open PySem L2 PyProof.Rows PySem.Spec
/-! ## values without a heap: what is made of data alone is told of data alone -/
/-- what an object of one's own has -/
inductive Ct where
  | lst (ds : List PyData)
  | dic (kvs : List (Key × PyData))
def CtOk (G : Hp) : HO → Ct → Prop
  | .lst xs, .lst ds => DvAll G xs ds
  | .dK kvs, .dic ds => kvs.map (·.1) = ds.map (·.1) ∧ DvAll G (kvs.map (·.2)) (ds.map (·.2))
  | _, _ => False
def Ct.data : Ct → PyData
  | .lst ds => .list ds
  | .dic kvs => .dict (kvs.map fun p => (keyD p.1, p.2))
/-- any other thing that stays, by what is true of it -/
structure Ab where
  φ : Hp → V → Prop
  mono : ∀ {G G' : Hp} {x : V}, Same G G' → φ G x → φ G' x
/-- a name's, an expression's worth: not known; data; an object of one's own; the deck -/
inductive Rv where
  | non
  | v (d : PyData)
  | own (c : Ct)
  | deck
  | glb (x : V)
  | ab (A : Ab)
/-- a deck: its own list of what is left, its sum, its turn -/
structure Dk (H : Hp) (d c : Addr) : Prop where
  ne : c ≠ d
  own : ∃ t n : Int, H d = some (.lst [.ref c, .int t, .int n])
  cells : ∃ ns : List Int, H c = some (.lst (ns.map V.int)) ∧ ns.length ≤ 63
/-- a frame: the deck's addresses, where there is one, what stood at first, and the part of it that stays -/
structure Fr where
  dc : Option (Addr × Addr)
  H0 : Hp
  G0 : Hp
def Fr.dk (F : Fr) (a : Addr) : Prop := match F.dc with
  | some (d, c) => a = d ∨ a = c
  | none => False
def Fr.dok (F : Fr) (H : Hp) : Prop := match F.dc with
  | some (d, c) => Dk H d c
  | none => True
theorem Fr.keep (F : Fr) (H H' : Hp) (k : F.dok H) (h : ∀ a o, F.dk a → H a = some o → H' a = some o) : F.dok H' := by
  obtain ⟨dc, H0, G0⟩ := F
  cases dc with
  | none => trivial
  | some p =>
    obtain ⟨ne, ⟨t, n, own⟩, ⟨ns, cells, l⟩⟩ := (show Dk H p.1 p.2 from k)
    exact (show Dk H' p.1 p.2 from ⟨ne, ⟨t, n, h _ _ (.inl rfl) own⟩, ⟨ns, h _ _ (.inr rfl) cells, l⟩⟩)
theorem Fr.has (F : Fr) (H : Hp) (a : Addr) (k : F.dok H) (h : F.dk a) : H a ≠ none := by
  obtain ⟨dc, H0, G0⟩ := F
  cases dc with
  | none => exact (show False from h).elim
  | some p =>
    obtain ⟨ne, ⟨t, n, own⟩, ⟨ns, cells, l⟩⟩ := (show Dk H p.1 p.2 from k)
    rcases (show a = p.1 ∨ a = p.2 from h) with rfl | rfl
    · rw [own]; nofun
    · rw [cells]; nofun
def Fr.at (F : Fr) (H G : Hp) : Fr := { F with H0 := H, G0 := G }
theorem CtOk.same {G G' : Hp} (s : Same G G') : ∀ {o : HO} {c : Ct}, CtOk G o c → CtOk G' o c := fun {o c} h => by
  cases o <;> cases c <;> first
    | exact (False.elim h)
    | exact DvAll.same s h
    | exact ⟨h.1, DvAll.same s h.2⟩
theorem zip_keys : ∀ {kvs : List (Key × V)} {ds : List (Key × PyData)}, kvs.map (·.1) = ds.map (·.1) → (kvs.map fun p => keyD p.1).zip (ds.map (·.2)) = ds.map fun p => (keyD p.1, p.2)
  | [], [], _ => rfl
  | [], _ :: _, h => by cases h
  | _ :: _, [], h => by cases h
  | (k, v) :: kvs, (j, d) :: ds, h => by
    simp only [List.map_cons, List.cons.injEq] at h
    simp only [List.map_cons, List.zip_cons_cons, zip_keys h.2, h.1]
theorem CtOk.dv {G : Hp} {a : Addr} : ∀ {o : HO} {c : Ct}, CtOk G o c → G a = some o → Dv G (.ref a) c.data := fun {o c} h e => by
  cases o <;> cases c <;> first
    | exact (False.elim h)
    | exact .lst e h
    | (rw [Ct.data, ← zip_keys h.1]; exact .dic e h.2)
/-- all but tuples -/
def NTup (o : HO) : Prop := ∀ xs, o ≠ .tup xs
theorem CtOk.nt {G : Hp} {o : HO} {c : Ct} (h : CtOk G o c) : NTup o := fun xs e => by
  subst e
  cases c <;> exact h
/-- what stood outside of the part stays outside, but for tuples -/
def OnlyT (H G G' : Hp) : Prop := ∀ b o, H b = some o → NTup o → G b = none → G' b = none
/-- what a step of the program may do -/
structure Stp (F : Fr) (H G H' G' : Hp) : Prop where
  dok : F.dok H'
  big : ∀ b o, H b = some o → ¬ F.dk b → H' b = some o
  sub : Same G' H'
  nd : ∀ a, F.dk a → G' a = none
  part : Same G G'
  only : OnlyT H G G'
structure Bs (F : Fr) (H G : Hp) : Prop where
  dok : F.dok H
  sub : Same G H
  nd : ∀ a, F.dk a → G a = none
theorem Bs.refl {F : Fr} {H G : Hp} (B : Bs F H G) : Stp F H G H G := ⟨B.dok, fun _ _ e _ => e, B.sub, B.nd, Same.refl G, fun _ _ _ _ h => h⟩
theorem Stp.bs {F : Fr} {H G H' G' : Hp} (S : Stp F H G H' G') : Bs F H' G' := ⟨S.dok, S.sub, S.nd⟩
theorem Stp.still {F : Fr} {H G H' G' : Hp} (S : Stp F H G H' G') (k : F.dok H) {b : Addr} (h : H b ≠ none) : H' b ≠ none := by
  by_cases d : F.dk b
  · exact F.has _ _ S.dok d
  · cases e : H b with
    | none => exact absurd e h
    | some o => rw [S.big b o e d]; nofun
theorem Stp.trans {F : Fr} {H G H1 G1 H2 G2 : Hp} (k : F.dok H) (S : Stp F H G H1 G1) (T : Stp F H1 G1 H2 G2) : Stp F H G H2 G2 :=
  ⟨T.dok, fun b o e d => T.big b o (S.big b o e d) d, T.sub, T.nd, S.part.trans T.part, fun b o h1 h2 h3 => by
    by_cases d : F.dk b
    · exact T.nd b d
    · exact T.only b o (S.big b o h1 d) h2 (S.only b o h1 h2 h3)⟩
theorem Bs.grow {F : Fr} {H G H' G' : Hp} (B : Bs F H G) (g : Grow H G H' G') : Stp F H G H' G' :=
  ⟨F.keep H H' B.dok fun a o _ e => g.big a o e, fun b o e _ => g.big b o e, g.sub, fun a d => g.only a (F.has _ _ B.dok d) (B.nd a d), g.part, fun b o h1 _ h3 => g.only b (by rw [h1]; nofun) h3⟩
theorem Grow.atp {H G H' : Hp} {p : Addr} {o : HO} (sub : Same G H) (s : Same H H') (n : H p = none) (e : H' p = some o) : Grow H G H' (upd G p o) := by
  refine ⟨s, same_upd (sub.free n), fun b u eb => ?_, fun b h1 h2 => ?_⟩
  · by_cases hb : b = p
    · subst hb
      rw [upd_same] at eb
      rw [e]
      exact eb
    · rw [upd_ne hb] at eb
      exact s _ _ (sub _ _ eb)
  · rw [upd_ne fun z => h1 (by rw [z]; exact n)]
    exact h2
/-- a new thing, in the part -/
theorem Bs.new {F : Fr} {H G H' : Hp} {p : Addr} {o : HO} (B : Bs F H G) (s : Same H H') (n : H p = none) (e : H' p = some o) : Stp F H G H' (upd G p o) := B.grow (.atp B.sub s n e)
theorem Bs.same {F : Fr} {H G H' : Hp} (B : Bs F H G) (s : Same H H') : Stp F H G H' G := B.grow ⟨s, Same.refl G, B.sub.trans s, Only.refl H G⟩
/-- a worth by the heap and its part -/
def Ok (F : Fr) (H G : Hp) (x : V) : Rv → Prop
  | .non => True
  | .v d => Dv G x d
  | .own c => ∃ a o, x = .ref a ∧ H a = some o ∧ CtOk G o c ∧ G a = none ∧ ¬ F.dk a ∧ F.H0 a = none
  | .deck => ∃ d c, F.dc = some (d, c) ∧ x = .ref d
  | .glb v => x = v
  | .ab A => A.φ G x
/-- what a step tells -/
def Okr (H H' G' : Hp) (x : V) : Rv → Prop
  | .v d => Dv G' x d
  | .own c => ∃ a o, x = .ref a ∧ H a = none ∧ H' a = some o ∧ CtOk G' o c ∧ G' a = none
  | .glb v => x = v
  | .ab A => A.φ G' x
  | .non => False
  | .deck => False
abbrev Ev := List Rv
structure Rl (F : Fr) (en : Ev) (σ : L2.St) (H G : Hp) : Prop where
  d0 : F.dok F.H0
  bs : Bs F H G
  st : Stp F F.H0 F.G0 H G
  slot : ∀ (i : Nat) (r : Rv), en[i]? = some r → r ≠ .non → ∃ x, σ[i]? = some (some x) ∧ Ok F H G x r
  dist : ∀ (i j : Nat) (c c' : Ct), en[i]? = some (.own c) → en[j]? = some (.own c') → σ[i]? = σ[j]? → i = j
  len : en.length = σ.length
def Apart (en : Ev) (σ : L2.St) (x : V) : Prop := ∀ (i : Nat) (c : Ct), en[i]? = some (.own c) → σ[i]? ≠ some (some x)
theorem Ok.step {F : Fr} {H G H' G' : Hp} (S : Stp F H G H' G') {x : V} {r : Rv} (h : Ok F H G x r) : Ok F H' G' x r := by
  cases r with
  | non => trivial
  | v d => exact Dv.same S.part h
  | own c =>
    obtain ⟨a, o, e, h1, h2, h3, h4, h5⟩ := h
    exact ⟨a, o, e, S.big a o h1 h4, h2.same S.part, S.only a o h1 h2.nt h3, h4, h5⟩
  | deck => exact h
  | glb v => exact h
  | ab A => exact A.mono S.part h
theorem Rl.step {F : Fr} {en : Ev} {σ : L2.St} {H G H' G' : Hp} (R : Rl F en σ H G) (S : Stp F H G H' G') : Rl F en σ H' G' :=
  ⟨R.d0, S.bs, R.st.trans R.d0 S, fun i r e n => by
    obtain ⟨x, e1, h⟩ := R.slot i r e n
    exact ⟨x, e1, h.step S⟩, R.dist, R.len⟩
/-- nothing of one's own stands where nothing stood -/
theorem Rl.apart {F : Fr} {en : Ev} {σ : L2.St} {H G : Hp} (R : Rl F en σ H G) {a : Addr} (n : H a = none) : Apart en σ (.ref a) := fun i c e q => by
  obtain ⟨x, e1, b, o, rfl, h1, _⟩ := R.slot i _ e nofun
  rw [e1] at q
  cases q
  rw [h1] at n
  cases n
theorem Rl.res {F : Fr} {en : Ev} {σ : L2.St} {H G H' G' : Hp} {x : V} {r : Rv} (R : Rl F en σ H G) (S : Stp F H G H' G') (k : Okr H H' G' x r) : Rl F en σ H' G' ∧ Ok F H' G' x r ∧ Apart en σ x ∨ Rl F en σ H' G' ∧ Ok F H' G' x r ∧ ∀ c, r ≠ .own c := by
  cases r with
  | non => exact k.elim
  | deck => exact k.elim
  | glb v => exact .inr ⟨R.step S, k, nofun⟩
  | ab A => exact .inr ⟨R.step S, k, nofun⟩
  | v d => exact .inr ⟨R.step S, k, nofun⟩
  | own c =>
    obtain ⟨a, o, rfl, n, h1, h2, h3⟩ := k
    refine .inl ⟨R.step S, ⟨a, o, rfl, h1, h2, h3, fun d => F.has _ _ R.bs.dok d n, ?_⟩, R.apart n⟩
    cases e : F.H0 a with
    | none => rfl
    | some u => exact absurd n (R.st.still R.d0 (by rw [e]; nofun))
/-- where it is one's own, no name has it -/
def Lone (en : Ev) (σ : L2.St) (x : V) (r : Rv) : Prop := ∀ c, r = .own c → Apart en σ x
theorem Rl.res' {F : Fr} {en : Ev} {σ : L2.St} {H G H' G' : Hp} {x : V} {r : Rv} (R : Rl F en σ H G) (S : Stp F H G H' G') (k : Okr H H' G' x r) : Rl F en σ H' G' ∧ Ok F H' G' x r ∧ Lone en σ x r := by
  rcases R.res S k with ⟨a, b, c⟩ | ⟨a, b, c⟩
  · exact ⟨a, b, fun _ _ => c⟩
  · exact ⟨a, b, fun d e => absurd e (c d)⟩
/-- an object of one's own becomes a part of what stays -/
theorem Rl.freeze {F : Fr} {en : Ev} {σ : L2.St} {H G : Hp} {a : Addr} {o : HO} {c : Ct} (R : Rl F en σ H G) (e : H a = some o) (h : CtOk G o c) (n : G a = none) (d : ¬ F.dk a) (n0 : F.H0 a = none) (ap : Apart en σ (.ref a)) :
    Same G (upd G a o) ∧ Rl F en σ H (upd G a o) ∧ Dv (upd G a o) (.ref a) c.data := by
  have s : Same G (upd G a o) := same_upd n
  have sub : Same (upd G a o) H := fun b u eb => by
    by_cases hb : b = a
    · subst hb
      rw [upd_same] at eb
      rw [e]
      exact eb
    · rw [upd_ne hb] at eb
      exact R.bs.sub _ _ eb
  have nd : ∀ b, F.dk b → upd G a o b = none := fun b hb => by
    rw [upd_ne fun z => d (by rw [← z]; exact hb)]
    exact R.bs.nd b hb
  have only : ∀ b, b ≠ a → G b = none → upd G a o b = none := fun b hb h2 => by
    rw [upd_ne hb]
    exact h2
  refine ⟨s, ⟨R.d0, ⟨R.bs.dok, sub, nd⟩, ⟨R.st.dok, R.st.big, sub, nd, R.st.part.trans s, fun b u h1 h2 h3 => only b (fun z => by rw [z, n0] at h1; cases h1) (R.st.only b u h1 h2 h3)⟩, fun i r ei nr => ?_, R.dist, R.len⟩, (h.same s).dv upd_same⟩
  obtain ⟨x, e1, k⟩ := R.slot i r ei nr
  refine ⟨x, e1, ?_⟩
  cases r with
  | non => trivial
  | v d => exact Dv.same s k
  | own c' =>
    obtain ⟨b, o', rfl, h1, h2, h3, h4, h5⟩ := k
    exact ⟨b, o', rfl, h1, h2.same s, only b (fun z => ap i c' ei (by rw [e1, z])) h3, h4, h5⟩
  | deck => exact k
  | glb v => exact k
  | ab A => exact A.mono s k
/-- as data -/
def asD : Rv → (PyData → Prop) → Prop
  | .v d, P => P d
  | .own c, P => P c.data
  | .non, _ => False
  | .deck, _ => False
  | .glb _, _ => False
  | .ab _, _ => False
theorem Rl.use {F : Fr} {en : Ev} {σ : L2.St} {H G : Hp} {x : V} {r : Rv} {P : PyData → Prop} (R : Rl F en σ H G) (k : Ok F H G x r) (l : Lone en σ x r) (h : asD r P) : ∃ G' d, Same G G' ∧ Rl F en σ H G' ∧ Dv G' x d ∧ P d := by
  cases r with
  | non => exact h.elim
  | deck => exact h.elim
  | glb v => exact h.elim
  | ab A => exact h.elim
  | v d => exact ⟨G, d, Same.refl G, R, k, h⟩
  | own c =>
    obtain ⟨a, o, rfl, h1, h2, h3, h4, h5⟩ := k
    obtain ⟨s, R', dv⟩ := R.freeze h1 h2 h3 h4 h5 (l c rfl)
    exact ⟨_, _, s, R', dv, h⟩
theorem get_set {α : Type} {l : List α} {i j : Nat} {x y : α} (h : (l.set i x)[j]? = some y) : (j = i ∧ i < l.length ∧ y = x) ∨ (j ≠ i ∧ l[j]? = some y) := by
  by_cases e : i = j
  · subst e
    by_cases hl : i < l.length
    · rw [List.getElem?_set_self hl] at h
      exact .inl ⟨rfl, hl, (Option.some.inj h).symm⟩
    · rw [List.getElem?_eq_none (by rw [List.length_set]; omega)] at h
      cases h
  · rw [List.getElem?_set_ne e] at h
    exact .inr ⟨fun z => e z.symm, h⟩
/-- a name is set -/
theorem Rl.asg {F : Fr} {en : Ev} {σ : L2.St} {H G : Hp} {x : V} {r : Rv} (i : Nat) (R : Rl F en σ H G) (k : Ok F H G x r) (l : Lone en σ x r) : Rl F (en.set i r) (σ.set i (some x)) H G := by
  refine ⟨R.d0, R.bs, R.st, fun j r' e n => ?_, fun j j' c c' e1 e2 e3 => ?_, by rw [List.length_set, List.length_set, R.len]⟩
  · rcases get_set e with ⟨rfl, hl, rfl⟩ | ⟨hj, e⟩
    · exact ⟨x, by rw [List.getElem?_set_self (by rw [← R.len]; exact hl)], k⟩
    · obtain ⟨y, e1, h⟩ := R.slot j r' e n
      exact ⟨y, by rw [List.getElem?_set_ne (Ne.symm hj)]; exact e1, h⟩
  · rcases get_set e1 with ⟨h1, hl, q1⟩ | ⟨h1, q1⟩ <;> rcases get_set e2 with ⟨h2, hl2, q2⟩ | ⟨h2, q2⟩
    · rw [h1, h2]
    · rw [h1, List.getElem?_set_self (by rw [← R.len]; exact hl), List.getElem?_set_ne (Ne.symm h2)] at e3
      exact absurd e3.symm (l c q1.symm j' c' q2)
    · rw [h2, List.getElem?_set_self (by rw [← R.len]; exact hl2), List.getElem?_set_ne (Ne.symm h1)] at e3
      exact absurd e3 (l c' q2.symm j c q1)
    · rw [List.getElem?_set_ne (Ne.symm h1), List.getElem?_set_ne (Ne.symm h2)] at e3
      exact R.dist j j' c c' q1 q2 e3
/-- what is known of a name is told less, or as data: the name as it is -/
theorem Rl.re {F : Fr} {en : Ev} {σ : L2.St} {H G : Hp} {x : V} {r : Rv} (i : Nat) (R : Rl F en σ H G) (e : σ[i]? = some (some x)) (k : Ok F H G x r) (l : ∀ c, r = .own c → ∃ c', en[i]? = some (.own c')) : Rl F (en.set i r) σ H G := by
  refine ⟨R.d0, R.bs, R.st, fun j r' ej n => ?_, fun j j' c c' e1 e2 e3 => ?_, by rw [List.length_set, R.len]⟩
  · rcases get_set ej with ⟨rfl, hl, rfl⟩ | ⟨hj, ej⟩
    · exact ⟨x, e, k⟩
    · exact R.slot j r' ej n
  · have q : ∀ {m : Nat} {d : Ct}, (en.set i r)[m]? = some (.own d) → ∃ d', en[m]? = some (.own d') := fun {m d} h => by
      rcases get_set h with ⟨rfl, _, h1⟩ | ⟨_, h1⟩
      · exact l d h1.symm
      · exact ⟨d, h1⟩
    obtain ⟨d, h1⟩ := q e1
    obtain ⟨d', h2⟩ := q e2
    exact R.dist j j' d d' h1 h2 e3
/-- a name told no more -/
theorem Rl.drop {F : Fr} {en : Ev} {σ : L2.St} {H G : Hp} (i : Nat) (R : Rl F en σ H G) : Rl F (en.set i .non) σ H G := by
  refine ⟨R.d0, R.bs, R.st, fun j r' ej n => ?_, fun j j' c c' e1 e2 e3 => ?_, by rw [List.length_set, R.len]⟩
  · rcases get_set ej with ⟨rfl, hl, rfl⟩ | ⟨hj, ej⟩
    · exact absurd rfl n
    · exact R.slot j r' ej n
  · rcases get_set e1 with ⟨_, _, h⟩ | ⟨_, q1⟩
    · cases h
    rcases get_set e2 with ⟨_, _, h⟩ | ⟨_, q2⟩
    · cases h
    exact R.dist j j' c c' q1 q2 e3
/-- the object of a name of one's own is read, is written -/
theorem Rl.own {F : Fr} {en : Ev} {σ : L2.St} {H G : Hp} {i : Nat} {c : Ct} (R : Rl F en σ H G) (e : en[i]? = some (.own c)) : ∃ a o, σ[i]? = some (some (.ref a)) ∧ H a = some o ∧ CtOk G o c ∧ G a = none ∧ ¬ F.dk a ∧ F.H0 a = none := by
  obtain ⟨x, e1, a, o, rfl, h⟩ := R.slot i _ e nofun
  exact ⟨a, o, e1, h⟩
theorem Rl.write {F : Fr} {en : Ev} {σ : L2.St} {H G : Hp} {i : Nat} {c c' : Ct} {a : Addr} {o : HO} (R : Rl F en σ H G) (e : en[i]? = some (.own c)) (ea : σ[i]? = some (some (.ref a))) (k : CtOk G o c') : Rl F (en.set i (.own c')) σ (upd H a o) G := by
  obtain ⟨a', o', e1, h1, h2, h3, h4, h5⟩ := R.own e
  rw [ea] at e1
  cases e1
  have off : ∀ b, b ≠ a → upd H a o b = H b := fun b hb => upd_ne hb
  have sub : Same G (upd H a o) := fun b u eb => by
    rw [off b fun z => by rw [z, h3] at eb; cases eb]
    exact R.bs.sub b u eb
  have dok : F.dok (upd H a o) := F.keep H _ R.bs.dok fun b u hb eb => by
    rw [off b fun z => h4 (by rw [← z]; exact hb)]
    exact eb
  refine ⟨R.d0, ⟨dok, sub, R.bs.nd⟩, ⟨dok, fun b u eb hb => ?_, sub, R.st.nd, R.st.part, R.st.only⟩, fun j r ej n => ?_, fun j j' d d' e1 e2 e3 => ?_, by rw [List.length_set, R.len]⟩
  · rw [off b fun z => by rw [z, h5] at eb; cases eb]
    exact R.st.big b u eb hb
  · rcases get_set ej with ⟨rfl, hl, rfl⟩ | ⟨hj, ej⟩
    · exact ⟨_, ea, a, o, rfl, upd_same, k, h3, h4, h5⟩
    · obtain ⟨x, e1, hx⟩ := R.slot j r ej n
      refine ⟨x, e1, ?_⟩
      cases r with
      | non => trivial
      | v d => exact hx
      | own d =>
        obtain ⟨b, u, rfl, g1, g2, g3, g4, g5⟩ := hx
        exact ⟨b, u, rfl, by rw [off b fun z => hj (R.dist j i d c ej e (by rw [e1, ea, z]))]; exact g1, g2, g3, g4, g5⟩
      | deck => exact hx
      | glb v => exact hx
      | ab A => exact hx
  · have q : ∀ {m : Nat} {d : Ct}, (en.set i (.own c'))[m]? = some (.own d) → ∃ d', en[m]? = some (.own d') := fun {m d} h => by
      rcases get_set h with ⟨rfl, _, h1⟩ | ⟨_, h1⟩
      · exact ⟨c, e⟩
      · exact ⟨d, h1⟩
    obtain ⟨d1, g1⟩ := q e1
    obtain ⟨d2, g2⟩ := q e2
    exact R.dist j j' d1 d2 g1 g2 e3
/-- a thing that no name has is held beside -/
def Fr.add (F : Fr) (a : Addr) (o : HO) : Fr := { F with H0 := upd F.H0 a o }
theorem Rl.hold {F : Fr} {en : Ev} {σ : L2.St} {H G : Hp} {a : Addr} {o : HO} (R : Rl F en σ H G) (e : H a = some o) (n : G a = none) (nk : ¬ F.dk a) (ap : Apart en σ (.ref a)) : Rl (F.add a o) en σ H G := by
  refine ⟨F.keep F.H0 _ R.d0 fun b u hb eb => by show upd F.H0 a o b = some u; rw [upd_ne fun z => nk (by rw [← z]; exact hb)]; exact eb, ⟨R.bs.dok, R.bs.sub, R.bs.nd⟩, ⟨R.st.dok, fun b u eb hb => ?_, R.st.sub, R.st.nd, R.st.part, fun b u h1 h2 h3 => ?_⟩, fun i r ei nr => ?_, R.dist, R.len⟩
  · by_cases z : b = a
    · subst z
      rw [show (F.add b o).H0 b = some o from upd_same] at eb
      cases eb
      exact e
    · exact R.st.big b u (by rw [← upd_ne (H := F.H0) (o := o) z]; exact eb) hb
  · by_cases z : b = a
    · rw [z]
      exact n
    · exact R.st.only b u (by rw [← upd_ne (H := F.H0) (o := o) z]; exact h1) h2 h3
  · obtain ⟨x, e1, hx⟩ := R.slot i r ei nr
    refine ⟨x, e1, ?_⟩
    cases r with
    | non => trivial
    | v d => exact hx
    | own d =>
      obtain ⟨b, u, rfl, g1, g2, g3, g4, g5⟩ := hx
      exact ⟨b, u, rfl, g1, g2, g3, g4, by show upd F.H0 a o b = none; rw [upd_ne fun z => ap i d ei (by rw [e1, z])]; exact g5⟩
    | deck => exact hx
    | glb v => exact hx
    | ab A => exact hx
theorem Rl.unhold {F : Fr} {en : Ev} {σ : L2.St} {H G : Hp} {a : Addr} {o : HO} (R : Rl (F.add a o) en σ H G) (nt : NTup o) (d0 : F.dok F.H0) (n0 : F.H0 a = none) (d : ¬ F.dk a) (ng : F.G0 a = none) : Rl F en σ H G ∧ H a = some o ∧ G a = none ∧ Apart en σ (.ref a) := by
  have up : ∀ b u, F.H0 b = some u → (F.add a o).H0 b = some u := fun b u e => by
    show upd F.H0 a o b = some u
    rw [upd_ne fun z => by rw [z, n0] at e; cases e]
    exact e
  refine ⟨⟨d0, ⟨R.bs.dok, R.bs.sub, R.bs.nd⟩, ⟨R.st.dok, fun b u eb hb => R.st.big b u (up b u eb) hb, R.st.sub, R.st.nd, R.st.part, fun b u h1 h2 h3 => R.st.only b u (up b u h1) h2 h3⟩, fun i r ei nr => ?_, R.dist, R.len⟩, R.st.big a o upd_same d, R.st.only a o upd_same nt ng, fun i c ei q => ?_⟩
  · obtain ⟨x, e1, hx⟩ := R.slot i r ei nr
    refine ⟨x, e1, ?_⟩
    cases r with
    | non => trivial
    | v d => exact hx
    | own d =>
      obtain ⟨b, u, rfl, g1, g2, g3, g4, g5⟩ := hx
      have g5 : upd F.H0 a o b = none := g5
      exact ⟨b, u, rfl, g1, g2, g3, g4, by rw [← g5, upd_ne fun z => by rw [z, upd_same] at g5; cases g5]⟩
    | deck => exact hx
    | glb v => exact hx
    | ab A => exact hx
  · obtain ⟨x, e1, b, u, rfl, g1, g2, g3, g4, g5⟩ := R.slot i _ ei nofun
    rw [e1] at q
    cases q
    have g5 : upd F.H0 a o a = none := g5
    rw [upd_same] at g5
    cases g5
end Vf
set_option backward.eqns.nonrecursive true
namespace Vf
open PySem L2 PyProof.Rows PySem.Spec
/-! ## readings by values: expressions -/
abbrev DTE := Ev → (Rv → Ev → Prop) → Prop
abbrev DTT := Ev → (Bool → Ev → Prop) → Prop
abbrev DTA := Ev → (List Rv → Ev → Prop) → Prop
def Fin (F : Fr) (σ : L2.St) (G : Hp) (Q : Rv → Ev → Prop) (R : VK) : Prop := ∀ (x : V) (H' G' : Hp) (r : Rv) (en' : Ev), Same G G' → Rl F en' σ H' G' → Ok F H' G' x r → Lone en' σ x r → Q r en' → R x H'
theorem Fin.v {F : Fr} {σ : L2.St} {G H' G' : Hp} {Q : Rv → Ev → Prop} {R : VK} {x : V} {d : PyData} {en' : Ev} (fin : Fin F σ G Q R) (s : Same G G') (rl : Rl F en' σ H' G') (dv : Dv G' x d) (q : Q (.v d) en') : R x H' :=
  fin x H' G' (.v d) en' s rl dv (fun _ e => by cases e) q
def lift (t : DTE) : TE := fun σ H R => ∃ (F : Fr) (en : Ev) (G : Hp) (Q : Rv → Ev → Prop), Rl F en σ H G ∧ t en Q ∧ Fin F σ G Q R
def liftT (t : DTT) : TT := fun σ H R => ∃ (F : Fr) (en : Ev) (G : Hp) (Q : Bool → Ev → Prop), Rl F en σ H G ∧ t en Q ∧ ∀ (b : Bool) (H' G' : Hp) (en' : Ev), Same G G' → Rl F en' σ H' G' → Q b en' → R b H'
/-- arguments: data, or the deck -/
def OksA (F : Fr) (H G : Hp) : List V → List Rv → Prop
  | [], [] => True
  | x :: xs, .v d :: rs => Dv G x d ∧ OksA F H G xs rs
  | x :: xs, .deck :: rs => Ok F H G x .deck ∧ OksA F H G xs rs
  | x :: xs, .glb v :: rs => x = v ∧ OksA F H G xs rs
  | x :: xs, .ab A :: rs => A.φ G x ∧ OksA F H G xs rs
  | _, _ => False
def liftA (t : DTA) : TA := fun σ H R => ∃ (F : Fr) (en : Ev) (G : Hp) (Q : List Rv → Ev → Prop), Rl F en σ H G ∧ t en Q ∧ ∀ (xs : List V) (H' G' : Hp) (rs : List Rv) (en' : Ev), Same G G' → Rl F en' σ H' G' → OksA F H' G' xs rs → Q rs en' → R xs H'
def DE (X : Cx) (e : Expr) (t : DTE) : Prop := PE X e (lift t)
def DT (X : Cx) (e : Expr) (t : DTT) : Prop := PT X e (liftT t)
def DA (X : Cx) (es : List Expr) (t : DTA) : Prop := PA X es (liftA t)
theorem toE {X : Cx} {e : Expr} {te : TE} {t : DTE} (h : PE X e te) (w : ∀ σ H R, lift t σ H R → te σ H R) : DE X e t := ⟨fun pins s σ H Q I q => h.run pins s σ H Q I (w σ H Q q)⟩
theorem toT {X : Cx} {e : Expr} {te : TT} {t : DTT} (h : PT X e te) (w : ∀ σ H R, liftT t σ H R → te σ H R) : DT X e t := ⟨fun pins s σ H Q I q => h.run pins s σ H Q I (w σ H Q q)⟩
theorem toA {X : Cx} {es : List Expr} {te : TA} {t : DTA} (h : PA X es te) (w : ∀ σ H R, liftA t σ H R → te σ H R) : DA X es t := ⟨fun pos pins s σ H Q I q => h.run pos pins s σ H Q I (w σ H Q q)⟩
section
variable {F : Fr} {en : Ev} {σ : L2.St} {H G : Hp} {R : VK}
theorem lift_data {t : DTE} {P : Ev → PyData → Prop} (rl : Rl F en σ H G) (h : t en fun r en1 => asD r (P en1)) (k : ∀ x H1 G1 d en1, Same G G1 → Rl F en1 σ H1 G1 → Dv G1 x d → P en1 d → R x H1) : lift t σ H R :=
  ⟨F, en, G, _, rl, h, fun x H' G' r en' s R' ok l q => by
    obtain ⟨G2, d, s2, R2, dv, p⟩ := R'.use ok l q
    exact k x H' G2 d en' (s.trans s2) R2 dv p⟩
theorem OksA.step {F : Fr} {H G H' G' : Hp} (S : Same G G') : ∀ {xs : List V} {rs : List Rv}, OksA F H G xs rs → OksA F H' G' xs rs
  | [], [], _ => trivial
  | x :: xs, .v d :: rs, ⟨a, b⟩ => ⟨Dv.same S a, b.step S⟩
  | x :: xs, .deck :: rs, ⟨a, b⟩ => ⟨a, b.step S⟩
  | x :: xs, .glb v :: rs, ⟨a, b⟩ => ⟨a, b.step S⟩
  | x :: xs, .ab A :: rs, ⟨a, b⟩ => ⟨A.mono S a, b.step S⟩
  | [], _ :: _, h => h.elim
  | _ :: _, [], h => h.elim
  | _ :: _, .non :: _, h => h.elim
  | _ :: _, .own _ :: _, h => h.elim
end
/-! ### what an operation asks and tells, by data -/
abbrev V1 := PyData → (Rv → Prop) → Prop
abbrev V2 := PyData → PyData → (Rv → Prop) → Prop
abbrev VL := List PyData → (Rv → Prop) → Prop
def Res (F : Fr) (H G : Hp) (Q : Rv → Prop) (R : VK) : Prop := ∀ (z : V) (H' G' : Hp) (r : Rv), Stp F H G H' G' → Okr H H' G' z r → Q r → R z H'
def liftR1 (f : V1) : V → Hp → VK → Prop := fun x H R => ∃ (F : Fr) (G : Hp) (dx : PyData) (Q : Rv → Prop), Bs F H G ∧ Dv G x dx ∧ f dx Q ∧ Res F H G Q R
def liftR2 (f : V2) : R2 := fun x y H R => ∃ (F : Fr) (G : Hp) (dx dy : PyData) (Q : Rv → Prop), Bs F H G ∧ Dv G x dx ∧ Dv G y dy ∧ f dx dy Q ∧ Res F H G Q R
def liftC (f : VL) : List V → Hp → VK → Prop := fun xs H R => ∃ (F : Fr) (G : Hp) (ds : List PyData) (Q : Rv → Prop), Bs F H G ∧ DvAll G xs ds ∧ f ds Q ∧ Res F H G Q R
section
variable {F : Fr} {H G : Hp} {Q : Rv → Prop} {R : VK}
theorem Res.v (h : Res F H G Q R) (B : Bs F H G) {x : V} {d : PyData} (dv : Dv G x d) (q : Q (.v d)) : R x H := h x H G (.v d) B.refl dv q
theorem Res.tup (h : Res F H G Q R) (B : Bs F H G) {p : Addr} {H' : Hp} {xs : List V} {ds : List PyData} (s : Same H H') (n : H p = none) (e : H' p = some (.tup xs)) (dv : DvAll G xs ds) (q : Q (.v (.tuple ds))) : R (.ref p) H' :=
  h _ H' _ (.v (.tuple ds)) (B.new s n e) (Dv.tup upd_same (dv.same (same_upd (B.sub.free n)))) q
theorem Res.lst (h : Res F H G Q R) (B : Bs F H G) {p : Addr} {H' : Hp} {xs : List V} {ds : List PyData} (s : Same H H') (n : H p = none) (e : H' p = some (.lst xs)) (dv : DvAll G xs ds) (q : Q (.own (.lst ds))) : R (.ref p) H' :=
  h _ H' G (.own (.lst ds)) (B.same s) ⟨p, _, rfl, n, e, dv, B.sub.free n⟩ q
end
/-! ### constants, names -/
def dC (d : PyData) : DTE := fun en Q => Q (.v d) en
def rdV : Option Rv → Ev → Nat → (Rv → Ev → Prop) → Prop
  | some (.v d), en, _, Q => Q (.v d) en
  | some (.own c), en, i, Q => Q (.v c.data) (en.set i (.v c.data))
  | some .deck, en, _, Q => Q .deck en
  | some (.glb v), en, _, Q => Q (.glb v) en
  | some (.ab A), en, _, Q => Q (.ab A) en
  | some .non, _, _, _ => False
  | none, _, _, _ => False
theorem rdV.get {o : Option Rv} {en : Ev} {i : Nat} {Q : Rv → Ev → Prop} (h : rdV o en i Q) : (∃ d, o = some (.v d) ∧ Q (.v d) en) ∨ (∃ c, o = some (.own c) ∧ Q (.v c.data) (en.set i (.v c.data))) ∨ (o = some .deck ∧ Q .deck en) ∨ (∃ v, o = some (.glb v) ∧ Q (.glb v) en) ∨ ∃ A, o = some (.ab A) ∧ Q (.ab A) en := by
  match o, h with
  | some (.v d), h => exact .inl ⟨d, rfl, h⟩
  | some (.own c), h => exact .inr (.inl ⟨c, rfl, h⟩)
  | some .deck, h => exact .inr (.inr (.inl ⟨rfl, h⟩))
  | some (.glb v), h => exact .inr (.inr (.inr (.inl ⟨v, rfl, h⟩)))
  | some (.ab A), h => exact .inr (.inr (.inr (.inr ⟨A, rfl, h⟩)))
  | some .non, h => exact h.elim
  | none, h => exact h.elim
def dVar (i : Nat) : DTE := fun en Q => rdV en[i]? en i Q
section
variable {X : Cx} {e a b c : Expr} {pos : Pos} {ta tb tc : DTE}
theorem dConst {v : V} {d : PyData} (h : PE X e (tC v)) (k : ∀ G, Dv G v d) : DE X e (dC d) :=
  toE h fun σ H R ⟨F, en, G, Q, rl, q, fin⟩ => fin.v (Same.refl G) rl (k G) q
theorem dInt {i j pos} : DE X (.Constant (.int i) j pos) (dC (.int i)) := dConst pe_int fun _ => .int i
theorem dBl {b j pos} : DE X (.Constant (.bool b) j pos) (dC (.bool b)) := dConst pe_bl fun _ => .bl b
theorem dNon {j pos} : DE X (.Constant .none j pos) (dC .none) := dConst pe_non fun _ => .non
theorem dStr {x j pos} : DE X (.Constant (.str x) j pos) (dC (.str x)) := dConst pe_str fun _ => .str x
theorem dName {i : Nat} (h : PE X e (tVar i)) : DE X e (dVar i) := toE h fun σ H R ⟨F, en, G, Q, rl, q, fin⟩ => by
  rcases rdV.get q with ⟨d, ei, q⟩ | ⟨c, ei, q⟩ | ⟨ei, q⟩ | ⟨v, ei, q⟩ | ⟨A, ei, q⟩
  · obtain ⟨x, e1, k⟩ := rl.slot i _ ei nofun
    exact ⟨x, e1, fin.v (Same.refl G) rl k q⟩
  · obtain ⟨a, o, e1, h1, h2, h3, h4, h5⟩ := rl.own ei
    refine ⟨_, e1, ?_⟩
    have rd := rl.drop i
    have ap : Apart (en.set i .non) σ (.ref a) := fun j c' ej z => by
      rcases get_set ej with ⟨_, _, w⟩ | ⟨hj, ej⟩
      · cases w
      · exact hj (rl.dist j i c' c ej ei (by rw [z, e1]))
    obtain ⟨s, R1, dv⟩ := rd.freeze h1 h2 h3 h4 h5 ap
    have R2 : Rl F ((en.set i .non).set i (.v c.data)) σ H _ := R1.re (r := .v c.data) i e1 dv (fun _ e => by cases e)
    rw [List.set_set] at R2
    exact fin.v s R2 dv q
  · obtain ⟨x, e1, k⟩ := rl.slot i _ ei nofun
    exact ⟨x, e1, fin x H G .deck en (Same.refl G) rl k (fun _ e => by cases e) q⟩
  · obtain ⟨x, e1, k⟩ := rl.slot i _ ei nofun
    exact ⟨x, e1, fin x H G (.glb v) en (Same.refl G) rl k (fun _ e => by cases e) q⟩
  · obtain ⟨x, e1, k⟩ := rl.slot i _ ei nofun
    exact ⟨x, e1, fin x H G (.ab A) en (Same.refl G) rl k (fun _ e => by cases e) q⟩
/-! ### operators -/
def dBin (f : V2) (ta tb : DTE) : DTE := fun en Q => ta en fun r1 en1 => asD r1 fun d1 => tb en1 fun r2 en2 => asD r2 fun d2 => f d1 d2 fun r => Q r en2
def dUn (f : V1) (ta : DTE) : DTE := fun en Q => ta en fun r1 en1 => asD r1 fun d1 => f d1 fun r => Q r en1
theorem lift_bin {f : V2} {σ : L2.St} {H : Hp} {R : VK} (h : lift (dBin f ta tb) σ H R) : tOp (liftR2 f) (lift ta) (lift tb) σ H R := by
  obtain ⟨F, en, G, Q, rl, h, fin⟩ := h
  refine lift_data rl h fun x H1 G1 d1 en1 s1 R1 v1 h1 => lift_data R1 h1 fun y H2 G2 d2 en2 s2 R2 v2 h2 => ⟨F, G2, d1, d2, _, R2.bs, v1.same s2, v2, h2, fun z H' G' r S ok q => ?_⟩
  obtain ⟨R3, ok3, l3⟩ := R2.res' S ok
  exact fin z H' G' r en2 ((s1.trans s2).trans S.part) R3 ok3 l3 q
theorem dOp {op : Operator} {f : V2} (ho : OpR X (binaryOp op) (liftR2 f)) (ha : DE X a ta) (hb : DE X b tb) : DE X (.BinOp a op b pos) (dBin f ta tb) := toE (pe_op ho ha hb) fun _ _ _ => lift_bin
theorem dCmp {op : CmpOp} {f : V2} (ho : OpR X (compareOp op) (liftR2 f)) (ha : DE X a ta) (hb : DE X b tb) (hm : behindInMarks op b = false) : DE X (.Compare a [op] [b] pos) (dBin f ta tb) := toE (pe_cmpR ho ha hb hm) fun _ _ _ => lift_bin
theorem dIx {f : V2} (hr : IxR X (liftR2 f)) (ha : DE X a ta) (hb : DE X b tb) (hs : PlainIx b) : DE X (.Subscript a b pos) (dBin f ta tb) := toE (pe_ix hr ha hb hs) fun _ _ _ => lift_bin
theorem dUnary {op : UnaryOp} {f : V1} (ho : UnR X (unaryOp op) (liftR1 f)) (ha : DE X a ta) : DE X (.UnaryOp op a pos) (dUn f ta) :=
  toE (pe_un ho ha) fun σ H R ⟨F, en, G, Q, rl, h, fin⟩ => lift_data rl h fun x H1 G1 d1 en1 s1 R1 v1 h1 => ⟨F, G1, d1, _, R1.bs, v1, h1, fun z H' G' r S ok q => by
    obtain ⟨R3, ok3, l3⟩ := R1.res' S ok
    exact fin z H' G' r en1 (s1.trans S.part) R3 ok3 l3 q⟩
/-- a truth -/
def asB : PyData → (Bool → Prop) → Prop
  | .bool b, P => P b
  | _, _ => False
def dTest (t : DTE) : DTT := fun en Q => t en fun r en1 => asD r fun d => asB d fun b => Q b en1
theorem dtCmp {op : CmpOp} {f : V2} (ho : OpR X (compareOp op) (liftR2 f)) (ha : DE X a ta) (hb : DE X b tb) (hm : behindInMarks op b = false) : DT X (.Compare a [op] [b] pos) (dTest (dBin f ta tb)) :=
  toT (pt_cmpR ho ha hb hm) fun σ H R ⟨F, en, G, Q, rl, h, fin⟩ => lift_bin (lift_data rl h fun x H1 G1 d en1 s1 R1 v1 h1 => by
    cases v1 with
    | bl b => exact ⟨b, rfl, fin b H1 G1 en1 s1 R1 h1⟩
    | _ => exact False.elim h1)
theorem dtVal (ha : DE X e ta) (he : ∀ whole, isTrue e X.env whole = (do let v ← whole; standAt e.pos; holding [v] (truthy v)) := by intro _; rfl) : DT X e (dTest ta) :=
  toT (pt_val ha he) fun σ H R ⟨F, en, G, Q, rl, h, fin⟩ => lift_data rl h fun x H1 G1 d en1 s1 R1 v1 h1 => by
    cases v1 with
    | bl b => exact ⟨b, rfl, fin b H1 G1 en1 s1 R1 h1⟩
    | _ => exact False.elim h1
def truD : PyData → (Bool → Prop) → Prop
  | .none, P => P false
  | .bool b, P => P b
  | .int i, P => P (i != 0)
  | .str y, P => y.length ≤ sizeLine ∧ P ((y.length : Int) != 0)
  | .list ds, P => P (!ds.isEmpty)
  | .tuple ds, P => P (!ds.isEmpty)
  | .dict kvs, P => P (!kvs.isEmpty)
theorem DvAll.empty {G : Hp} : ∀ {xs : List V} {ds : List PyData}, DvAll G xs ds → xs.isEmpty = ds.isEmpty
  | _, _, .nil => rfl
  | _, _, .cons _ _ => rfl
theorem tru_of {K : PySem.W.Frag} {G H : Hp} {x : V} {d : PyData} {P : Bool → Prop} (s : Same G H) (h : Dv G x d) (k : truD d P) : ∃ b, TruV K x H b ∧ P b := by
  cases h with
  | non => exact ⟨_, rfl, k⟩
  | bl b => exact ⟨_, rfl, k⟩
  | int i => exact ⟨_, rfl, k⟩
  | str y => exact ⟨_, ⟨k.1, rfl⟩, k.2⟩
  | lst e a => exact ⟨_, .inl ⟨_, .of (s _ _ e), rfl⟩, by rw [a.empty]; exact k⟩
  | tup e a => exact ⟨_, .inr (.inl ⟨_, .of (s _ _ e), rfl⟩), by rw [a.empty]; exact k⟩
  | @dic a kvs ds e hv =>
    refine ⟨_, .inr (.inr ⟨_, s _ _ e, rfl⟩), ?_⟩
    have : kvs.isEmpty = ((kvs.map fun p => keyD p.1).zip ds).isEmpty := by
      cases kvs with
      | nil => rfl
      | cons p r =>
        cases hv
        rfl
    rw [this]
    exact k
def dTru (t : DTE) : DTT := fun en Q => t en fun r en1 => asD r fun d => truD d fun b => Q b en1
theorem dtTru (ha : DE X e ta) (he : ∀ whole, isTrue e X.env whole = (do let v ← whole; standAt e.pos; holding [v] (truthy v))) : DT X e (dTru ta) :=
  toT (pt_truth ha he) fun σ H R ⟨F, en, G, Q, rl, h, fin⟩ => lift_data rl h fun x H1 G1 d en1 s1 R1 v1 h1 => by
    obtain ⟨b, t, q⟩ := tru_of (K := X.K) R1.bs.sub v1 h1
    exact ⟨b, t, fin b H1 G1 en1 s1 R1 q⟩
/-- a name's truth, the object stays its own -/
def truR : Option Rv → (Bool → Prop) → Prop
  | some (.v d), P => truD d P
  | some (.own (.lst ds)), P => P (!ds.isEmpty)
  | some (.own (.dic kvs)), P => P (!kvs.isEmpty)
  | some .non, _ => False
  | some .deck, _ => False
  | some (.glb _), _ => False
  | some (.ab _), _ => False
  | none, _ => False
theorem truR.get {o : Option Rv} {P : Bool → Prop} (h : truR o P) : (∃ d, o = some (.v d) ∧ truD d P) ∨ (∃ ds, o = some (.own (.lst ds)) ∧ P (!ds.isEmpty)) ∨ ∃ kvs, o = some (.own (.dic kvs)) ∧ P (!kvs.isEmpty) := by
  match o, h with
  | some (.v d), h => exact .inl ⟨d, rfl, h⟩
  | some (.own (.lst ds)), h => exact .inr (.inl ⟨ds, rfl, h⟩)
  | some (.own (.dic ds)), h => exact .inr (.inr ⟨ds, rfl, h⟩)
  | some .deck, h => exact h.elim
  | some (.glb _), h => exact h.elim
  | some (.ab _), h => exact h.elim
  | some .non, h => exact h.elim
  | none, h => exact h.elim
def dTruVar (i : Nat) : DTT := fun en Q => truR en[i]? fun b => Q b en
theorem dtTruVar {i : Nat} (h : PE X e (tVar i)) (he : ∀ whole, isTrue e X.env whole = (do let v ← whole; standAt e.pos; holding [v] (truthy v))) : DT X e (dTruVar i) :=
  toT (pt_truth h he) fun σ H R ⟨F, en, G, Q, rl, h, fin⟩ => by
    rcases truR.get h with ⟨d, ei, h⟩ | ⟨ds, ei, h⟩ | ⟨kvs, ei, h⟩
    · obtain ⟨x, e1, k⟩ := rl.slot i _ ei nofun
      obtain ⟨b, t, q⟩ := tru_of (K := X.K) rl.bs.sub k h
      exact ⟨x, e1, b, t, fin b H G en (Same.refl G) rl q⟩
    · obtain ⟨a, o, e1, h1, h2, h3, h4, h5⟩ := rl.own ei
      cases o with
      | lst xs => exact ⟨_, e1, _, .inl ⟨_, .of h1, rfl⟩, fin _ H G en (Same.refl G) rl (by rw [DvAll.empty h2]; exact h)⟩
      | _ => exact h2.elim
    · obtain ⟨a, o, e1, h1, h2, h3, h4, h5⟩ := rl.own ei
      cases o with
      | dK ks =>
        have : ks.isEmpty = kvs.isEmpty := by
          have := h2.1
          cases ks <;> cases kvs <;> first | rfl | cases this
        exact ⟨_, e1, _, .inr (.inr ⟨_, h1, rfl⟩), fin _ H G en (Same.refl G) rl (by rw [this]; exact h)⟩
      | _ => exact h2.elim
/-! ### and, or, not, if -/
variable {tA tB : DTT} {rest : List Expr}
def dAnd (t u : DTT) : DTT := fun en Q => t en fun c en1 => if c = true then u en1 Q else Q false en1
def dOr (t u : DTT) : DTT := fun en Q => t en fun c en1 => if c = true then Q true en1 else u en1 Q
def dNot (t : DTT) : DTT := fun en Q => t en fun c en1 => Q (!c) en1
def DW (X : Cx) (e : Expr) (t : DTT) : Prop := PW X e (liftT t)
theorem toW {te : TT} {t : DTT} (h : PW X e te) (w : ∀ σ H R, liftT t σ H R → te σ H R) : DW X e t := ⟨fun wh pins s σ H Q I q => h.run wh pins s σ H Q I (w σ H Q q)⟩
theorem DW.dt (h : DW X e tA) : DT X e tA := PW.pt h
theorem dwAnd1 (ha : DT X a tA) : DW X (.BoolOp .And [a] pos) tA := pw_and1 ha
theorem dwOr1 (ha : DT X a tA) : DW X (.BoolOp .Or [a] pos) tA := pw_or1 ha
theorem dwAnd (ha : DT X a tA) (hb : DW X (.BoolOp .And (b :: rest) pos) tB) : DW X (.BoolOp .And (a :: b :: rest) pos) (dAnd tA tB) :=
  toW (pw_and ha hb) fun σ H R ⟨F, en, G, Q, rl, h, fin⟩ => ⟨F, en, G, _, rl, h, fun c H1 G1 en1 s1 R1 q => by
    cases c with
    | true => exact ⟨F, en1, G1, Q, R1, q, fun b H2 G2 en2 s2 R2 q2 => fin b H2 G2 en2 (s1.trans s2) R2 q2⟩
    | false => exact fin _ H1 G1 en1 s1 R1 q⟩
theorem dwOr (ha : DT X a tA) (hb : DW X (.BoolOp .Or (b :: rest) pos) tB) : DW X (.BoolOp .Or (a :: b :: rest) pos) (dOr tA tB) :=
  toW (pw_or ha hb) fun σ H R ⟨F, en, G, Q, rl, h, fin⟩ => ⟨F, en, G, _, rl, h, fun c H1 G1 en1 s1 R1 q => by
    cases c with
    | false => exact ⟨F, en1, G1, Q, R1, q, fun b H2 G2 en2 s2 R2 q2 => fin b H2 G2 en2 (s1.trans s2) R2 q2⟩
    | true => exact fin _ H1 G1 en1 s1 R1 q⟩
theorem dtNot (ha : DT X a tA) : DT X (.UnaryOp .Not a pos) (dNot tA) :=
  toT (pt_not ha) fun σ H R ⟨F, en, G, Q, rl, h, fin⟩ => ⟨F, en, G, _, rl, h, fun c H1 G1 en1 s1 R1 q => fin _ H1 G1 en1 s1 R1 q⟩
def dAndV (ta tb : DTE) : DTE := fun en Q => ta en fun r en1 => asD r fun d => asB d fun c => if c = true then tb en1 Q else Q (.v (.bool false)) en1
def dOrV (ta tb : DTE) : DTE := fun en Q => ta en fun r en1 => asD r fun d => asB d fun c => if c = true then Q (.v (.bool true)) en1 else tb en1 Q
def dNotV (ta : DTE) : DTE := fun en Q => ta en fun r en1 => asD r fun d => asB d fun c => Q (.v (.bool (!c))) en1
theorem dOne {op} (h : DE X a ta) : DE X (.BoolOp op [a] pos) ta := pe_one h
theorem dAndE (ha : DE X a ta) (hb : DE X (.BoolOp .And (b :: rest) pos) tb) : DE X (.BoolOp .And (a :: b :: rest) pos) (dAndV ta tb) :=
  toE (pe_and ha hb) fun σ H R ⟨F, en, G, Q, rl, h, fin⟩ => lift_data rl h fun x H1 G1 d en1 s1 R1 v1 h1 => by
    cases v1 with
    | bl c =>
      refine ⟨c, rfl, ?_⟩
      cases c with
      | true => exact ⟨F, en1, G1, Q, R1, h1, fun y H2 G2 r en2 s2 R2 => fin y H2 G2 r en2 (s1.trans s2) R2⟩
      | false => exact fin.v s1 R1 (.bl false) h1
    | _ => exact False.elim h1
theorem dOrE (ha : DE X a ta) (hb : DE X (.BoolOp .Or (b :: rest) pos) tb) : DE X (.BoolOp .Or (a :: b :: rest) pos) (dOrV ta tb) :=
  toE (pe_or ha hb) fun σ H R ⟨F, en, G, Q, rl, h, fin⟩ => lift_data rl h fun x H1 G1 d en1 s1 R1 v1 h1 => by
    cases v1 with
    | bl c =>
      refine ⟨c, rfl, ?_⟩
      cases c with
      | false => exact ⟨F, en1, G1, Q, R1, h1, fun y H2 G2 r en2 s2 R2 => fin y H2 G2 r en2 (s1.trans s2) R2⟩
      | true => exact fin.v s1 R1 (.bl true) h1
    | _ => exact False.elim h1
theorem dNotE (ha : DE X a ta) : DE X (.UnaryOp .Not a pos) (dNotV ta) :=
  toE (pe_not ha) fun σ H R ⟨F, en, G, Q, rl, h, fin⟩ => lift_data rl h fun x H1 G1 d en1 s1 R1 v1 h1 => by
    cases v1 with
    | bl c => exact ⟨c, rfl, fin.v s1 R1 (.bl _) h1⟩
    | _ => exact False.elim h1
def dIf (t : DTT) (ta tb : DTE) : DTE := fun en Q => t en fun c en1 => if c = true then ta en1 Q else tb en1 Q
theorem dIfE (hc : DT X c tA) (ha : DE X a ta) (hb : DE X b tb) : DE X (.IfExp c a b pos) (dIf tA ta tb) :=
  toE (pe_ifExp hc ha hb) fun σ H R ⟨F, en, G, Q, rl, h, fin⟩ => ⟨F, en, G, _, rl, h, fun d H1 G1 en1 s1 R1 q => by
    cases d with
    | true => exact ⟨F, en1, G1, Q, R1, q, fun y H2 G2 r en2 s2 R2 => fin y H2 G2 r en2 (s1.trans s2) R2⟩
    | false => exact ⟨F, en1, G1, Q, R1, q, fun y H2 G2 r en2 s2 R2 => fin y H2 G2 r en2 (s1.trans s2) R2⟩⟩
/-! ### chains -/
def dChain (f f' : V2) (ta tb tc : DTE) : DTE := fun en Q => ta en fun r1 en1 => asD r1 fun d1 => tb en1 fun r2 en2 => asD r2 fun d2 => f d1 d2 fun r3 => asD r3 fun d3 => asB d3 fun k =>
  if k = true then tc en2 fun r4 en4 => asD r4 fun d4 => f' d2 d4 fun r => Q r en4 else Q (.v (.bool false)) en2
theorem lift_chain {f f' : V2} {σ : L2.St} {H : Hp} {R : VK} (h : lift (dChain f f' ta tb tc) σ H R) : tChain (liftR2 f) (liftR2 f') (lift ta) (lift tb) (lift tc) σ H R := by
  obtain ⟨F, en, G, Q, rl, h, fin⟩ := h
  refine lift_data rl h fun x H1 G1 d1 en1 s1 R1 v1 h1 => lift_data R1 h1 fun y H2 G2 d2 en2 s2 R2 v2 h2 => ⟨F, G2, d1, d2, _, R2.bs, v1.same s2, v2, h2, fun z H' G' r S ok q => ?_⟩
  obtain ⟨R3, ok3, l3⟩ := R2.res' S ok
  obtain ⟨G4, d3, s4, R4, dv4, q⟩ := R3.use ok3 l3 q
  have s := ((s1.trans s2).trans S.part).trans s4
  cases dv4 with
  | bl k =>
    refine ⟨k, rfl, ?_⟩
    cases k with
    | false => exact fin.v s R4 (.bl false) q
    | true =>
      refine lift_data R4 q fun u H5 G5 d5 en5 s5 R5 v5 h5 => ⟨F, G5, d2, d5, _, R5.bs, (v2.same (S.part.trans s4)).same s5, v5, h5, fun z H6 G6 r S6 ok q => ?_⟩
      obtain ⟨R6, ok6, l6⟩ := R5.res' S6 ok
      exact fin z H6 G6 r en5 ((s.trans s5).trans S6.part) R6 ok6 l6 q
  | _ => exact False.elim q
theorem dChainE {op op' : CmpOp} {f f' : V2} (ho : OpR X (compareOp op) (liftR2 f)) (ho' : OpR X (compareOp op') (liftR2 f')) (ha : DE X a ta) (hb : DE X b tb) (hc : DE X c tc)
    (hm : lastMarks [op, op'] [b, c] = false := by with_unfolding_all rfl) : DE X (.Compare a [op, op'] [b, c] pos) (dChain f f' ta tb tc) := toE (pe_chain ho ho' ha hb hc hm) fun _ _ _ => lift_chain
theorem dtChain {op op' : CmpOp} {f f' : V2} (ho : OpR X (compareOp op) (liftR2 f)) (ho' : OpR X (compareOp op') (liftR2 f')) (ha : DE X a ta) (hb : DE X b tb) (hc : DE X c tc)
    (hm : lastMarks [op, op'] [b, c] = false := by with_unfolding_all rfl) : DT X (.Compare a [op, op'] [b, c] pos) (dTest (dChain f f' ta tb tc)) :=
  toT (pt_chain ho ho' ha hb hc hm) fun σ H R ⟨F, en, G, Q, rl, h, fin⟩ => lift_chain (lift_data rl h fun x H1 G1 d en1 s1 R1 v1 h1 => by
    cases v1 with
    | bl b => exact ⟨b, rfl, fin b H1 G1 en1 s1 R1 h1⟩
    | _ => exact False.elim h1)
/-! ### arguments, tuples, lists -/
variable {es : List Expr} {tr : DTA}
/-- what stands as an argument -/
def asA : Rv → (Rv → Prop) → Prop
  | .v d, P => P (.v d)
  | .own c, P => P (.v c.data)
  | .deck, P => P .deck
  | .glb v, P => P (.glb v)
  | .ab A, P => P (.ab A)
  | .non, _ => False
def dNil : DTA := fun en Q => Q [] en
def dCons (ta : DTE) (tr : DTA) : DTA := fun en Q => ta en fun r en1 => asA r fun r1 => tr en1 fun rs en2 => Q (r1 :: rs) en2
theorem daNil : DA X [] dNil := toA pa_nil fun σ H R ⟨F, en, G, Q, rl, h, fin⟩ => fin [] H G [] en (Same.refl G) rl trivial h
theorem Rl.useA {F : Fr} {en : Ev} {σ : L2.St} {H G : Hp} {x : V} {r : Rv} {P : Rv → Prop} (R : Rl F en σ H G) (k : Ok F H G x r) (l : Lone en σ x r) (h : asA r P) : ∃ G' r', Same G G' ∧ Rl F en σ H G' ∧ ((∃ d, r' = .v d ∧ Dv G' x d) ∨ r' = .deck ∧ Ok F H G x .deck ∨ r' = .glb x ∨ ∃ A, r' = .ab A ∧ A.φ G' x) ∧ P r' := by
  cases r with
  | non => exact h.elim
  | deck => exact ⟨G, .deck, Same.refl G, R, .inr (.inl ⟨rfl, k⟩), h⟩
  | glb v =>
    have k : x = v := k
    exact ⟨G, .glb v, Same.refl G, R, .inr (.inr (.inl (by rw [k]))), h⟩
  | ab A => exact ⟨G, .ab A, Same.refl G, R, .inr (.inr (.inr ⟨A, rfl, k⟩)), h⟩
  | v d => exact ⟨G, .v d, Same.refl G, R, .inl ⟨d, rfl, k⟩, h⟩
  | own c =>
    obtain ⟨a, o, rfl, h1, h2, h3, h4, h5⟩ := k
    obtain ⟨s, R', dv⟩ := R.freeze h1 h2 h3 h4 h5 (l c rfl)
    exact ⟨_, .v c.data, s, R', .inl ⟨_, rfl, dv⟩, h⟩
theorem daCons (ha : DE X e ta) (hr : DA X es tr) (hs : starEach (e :: es) X.env = (false, eval e X.env) :: starEach es X.env := by rfl) : DA X (e :: es) (dCons ta tr) :=
  toA (pa_cons ha hr hs) fun σ H R ⟨F, en, G, Q, rl, h, fin⟩ => ⟨F, en, G, _, rl, h, fun x H1 G1 r en1 s1 R1 ok1 l1 q1 => by
    obtain ⟨G2, r2, s2, R2, dv, q2⟩ := R1.useA ok1 l1 q1
    refine ⟨F, en1, G2, _, R2, q2, fun xs H3 G3 rs en3 s3 R3 ok3 q3 => fin (x :: xs) H3 G3 (r2 :: rs) en3 ((s1.trans s2).trans s3) R3 ?_ q3⟩
    rcases dv with ⟨d, rfl, dv⟩ | ⟨rfl, dv⟩ | rfl | ⟨A, rfl, dv⟩
    · exact ⟨dv.same s3, ok3⟩
    · exact ⟨dv, ok3⟩
    · exact ⟨rfl, ok3⟩
    · exact ⟨A.mono s3 dv, ok3⟩⟩
/-- all of them data -/
def allD : List Rv → (List PyData → Prop) → Prop
  | [], P => P []
  | .v d :: rs, P => allD rs fun ds => P (d :: ds)
  | _ :: _, _ => False
theorem OksA.data {F : Fr} {H G : Hp} : ∀ {xs : List V} {rs : List Rv} {P : List PyData → Prop}, OksA F H G xs rs → allD rs P → ∃ ds, DvAll G xs ds ∧ P ds
  | [], [], _, _, h => ⟨[], .nil, h⟩
  | x :: xs, .v d :: rs, P, ⟨a, b⟩, h => by
    obtain ⟨ds, h1, h2⟩ := OksA.data (P := fun ds => P (d :: ds)) b h
    exact ⟨_, .cons a h1, h2⟩
  | x :: xs, .deck :: rs, _, _, h => h.elim
  | x :: xs, .glb _ :: rs, _, _, h => h.elim
  | x :: xs, .ab _ :: rs, _, _, h => h.elim
  | [], _ :: _, _, h, _ => h.elim
  | _ :: _, [], _, h, _ => h.elim
  | _ :: _, .non :: _, _, h, _ => h.elim
  | _ :: _, .own _ :: _, _, h, _ => h.elim
theorem liftA_data {F : Fr} {en : Ev} {σ : L2.St} {H G : Hp} {t : DTA} {P : Ev → List PyData → Prop} {R : List V → Hp → Prop} (rl : Rl F en σ H G) (h : t en fun rs en1 => allD rs (P en1)) (k : ∀ xs H1 G1 ds en1, Same G G1 → Rl F en1 σ H1 G1 → DvAll G1 xs ds → P en1 ds → R xs H1) : liftA t σ H R :=
  ⟨F, en, G, _, rl, h, fun xs H' G' rs en' s R' ok q => by
    obtain ⟨ds, dv, p⟩ := ok.data q
    exact k xs H' G' ds en' s R' dv p⟩
def dTup (t : DTA) : DTE := fun en Q => t en fun rs en1 => allD rs fun ds => ds.length ≤ sizeLine ∧ Q (.v (.tuple ds)) en1
def dLst (t : DTA) : DTE := fun en Q => t en fun rs en1 => allD rs fun ds => ds.length ≤ sizeLine ∧ Q (.own (.lst ds)) en1
theorem dTupE {x1} (h : DA X es tr) : DE X (.Tuple es x1 pos) (dTup tr) :=
  toE (pe_tupU h) fun σ H R ⟨F, en, G, Q, rl, h, fin⟩ => liftA_data rl h fun xs H1 G1 ds en1 s1 R1 dv ⟨z, q⟩ => ⟨by rw [dv.len]; exact z, fun p H2 s n e2 => by
    have S := R1.bs.new s n e2
    exact fin.v (s1.trans S.part) (R1.step S) (.tup upd_same (dv.same S.part)) q⟩
theorem dLstE (h : DA X es tr) : DE X (.List es pos) (dLst tr) :=
  toE (pe_lstU h) fun σ H R ⟨F, en, G, Q, rl, h, fin⟩ => liftA_data rl h fun xs H1 G1 ds en1 s1 R1 dv ⟨z, q⟩ => ⟨by rw [dv.len]; exact z, fun p H2 s n e2 => by
    have S := R1.bs.same s
    obtain ⟨R2, ok, l⟩ := R1.res' (r := .own (.lst ds)) (x := .ref p) S ⟨p, .lst xs, rfl, n, e2, dv, R1.bs.sub.free n⟩
    exact fin _ H2 _ _ en1 s1 R2 ok l q⟩
/-- a built-in called with data -/
def dBlt (f : VL) (t : DTA) : DTE := fun en Q => t en fun rs en1 => allD rs fun ds => f ds fun r => Q r en1
theorem lift_blt {f : VL} {σ : L2.St} {H : Hp} {R : VK} (h : lift (dBlt f tr) σ H R) : liftA tr σ H (fun xs H1 => liftC f xs H1 R) := by
  obtain ⟨F, en, G, Q, rl, h, fin⟩ := h
  refine liftA_data rl h fun xs H1 G1 ds en1 s1 R1 dv q => ⟨F, G1, ds, _, R1.bs, dv, q, fun z H' G' r S ok q => ?_⟩
  obtain ⟨R2, ok2, l2⟩ := R1.res' S ok
  exact fin z H' G' r en1 (s1.trans S.part) R2 ok2 l2 q
theorem dCallB {x : Str} {id : String} {p : Pos} {f : VL} (hc : CallR X (.builtin id) (liftC f)) (hg : Gl X x) (hm : X.mg x = none) (hv : bootBuiltins x = some (.builtin id)) (ha : DA X (e :: es) tr) (hn : x ≠ "__name__" := by decide) (hdb : (x == ("__debug__" : Str)) = false := by decide)
    (he : starEach (e :: es) X.env = (false, eval e X.env) :: starEach es X.env := by rfl) (hpl : (backTo pos (starEach es X.env)).any (·.1) = false := by rfl) : DE X (.Call (.Name x p) (e :: es) [] pos) (dBlt f tr) := toE (pe_callB hc hg hm hv ha hn hdb he hpl) fun _ _ _ => lift_blt
theorem dCallTy {x : Str} {T : String} {p : Pos} {f : VL} (hc : CallR X (.type T) (liftC f)) (hg : Gl X x) (hm : X.mg x = none) (hv : bootBuiltins x = some (.type T)) (ha : DA X (e :: es) tr) (hn : x ≠ "__name__" := by decide) (hdb : (x == ("__debug__" : Str)) = false := by decide)
    (he : starEach (e :: es) X.env = (false, eval e X.env) :: starEach es X.env := by rfl) (hpl : (backTo pos (starEach es X.env)).any (·.1) = false := by rfl) : DE X (.Call (.Name x p) (e :: es) [] pos) (dBlt f tr) := toE (pe_callTy hc hg hm hv ha hn hdb he hpl) fun _ _ _ => lift_blt
end
end Vf
set_option backward.eqns.nonrecursive true
namespace Vf
open PySem L2 PyProof.Rows PySem.Spec
/-! ## readings by values: targets, statements -/
abbrev DTG := Rv → Ev → (Ev → Prop) → Prop
abbrev DTGs := List PyData → Ev → (Ev → Prop) → Prop
def Kept (js : List Nat) (σ σ' : L2.St) : Prop := σ'.length = σ.length ∧ ∀ i, i ∉ js → σ'[i]? = σ[i]?
def FinG (F : Fr) (σ : L2.St) (js : List Nat) (G : Hp) (Q : Ev → Prop) (R : L2.St → Hp → Prop) : Prop := ∀ (σ' : L2.St) (en' : Ev) (H' G' : Hp), Same G G' → Rl F en' σ' H' G' → Kept js σ σ' → Q en' → R σ' H'
def liftG (js : List Nat) (g : DTG) : TG := fun x σ H R => ∃ (F : Fr) (en : Ev) (G : Hp) (r : Rv) (Q : Ev → Prop), Rl F en σ H G ∧ Ok F H G x r ∧ Lone en σ x r ∧ g r en Q ∧ FinG F σ js G Q R
def liftGs (js : List Nat) (g : DTGs) : TGs := fun xs σ H R => ∃ (F : Fr) (en : Ev) (G : Hp) (ds : List PyData) (Q : Ev → Prop), Rl F en σ H G ∧ DvAll G xs ds ∧ g ds en Q ∧ FinG F σ js G Q R
def DG (X : Cx) (tg : Expr) (js : List Nat) (g : DTG) : Prop := PG X tg (liftG js g)
def DGs (X : Cx) (ts : List Expr) (js : List Nat) (g : DTGs) : Prop := PGs X ts (liftGs js g)
theorem toG {X : Cx} {e : Expr} {te : TG} {js : List Nat} {t : DTG} (h : PG X e te) (w : ∀ x σ H R, liftG js t x σ H R → te x σ H R) : DG X e js t := ⟨fun pins s σ H v u Q I r q => h.run pins s σ H v u Q I r (w v σ H Q q)⟩
theorem toGs {X : Cx} {e : List Expr} {te : TGs} {js : List Nat} {t : DTGs} (h : PGs X e te) (w : ∀ x σ H R, liftGs js t x σ H R → te x σ H R) : DGs X e js t := ⟨fun pins s σ H v u Q I r q => h.run pins s σ H v u Q I r (w v σ H Q q)⟩
def dgName (i : Nat) : DTG := fun r en Q => Q (en.set i r)
def dgNil : DTGs := fun ds en Q => ds = [] ∧ Q en
def dgCons (g : DTG) (gs : DTGs) : DTGs := fun ds en Q => ∃ d r, ds = d :: r ∧ g (.v d) en fun en2 => gs r en2 Q
def asTL : PyData → (List PyData → Prop) → Prop
  | .tuple ds, P => P ds
  | .list ds, P => P ds
  | _, _ => False
def dgTup (n : Nat) (g : DTGs) : DTG := fun r en Q => asD r fun d => asTL d fun ds => ds.length = n ∧ g ds en Q
/-- a tuple alone -/
def asTup : PyData → (List PyData → Prop) → Prop
  | .tuple ds, P => P ds
  | _, _ => False
def dgTupT (n : Nat) (g : DTGs) : DTG := fun r en Q => asD r fun d => asTup d fun ds => ds.length = n ∧ g ds en Q
section
variable {X : Cx} {pos : Pos} {tg e : Expr} {es : List Expr} {js ks : List Nat} {g : DTG} {gs : DTGs}
theorem dgNameE {i : Nat} {e : Expr} (h : PG X e (gName i)) : DG X e [i] (dgName i) :=
  toG h fun x σ H R ⟨F, en, G, r, Q, rl, ok, l, q, fin⟩ => fin _ _ H G (Same.refl G) (rl.asg i ok l) ⟨List.length_set, fun j hj => by rw [List.getElem?_set_ne fun z => hj (by rw [z]; exact List.mem_cons_self)]⟩ q
theorem dgsNil : DGs X [] [] dgNil := toGs pgs_nil fun x σ H R ⟨F, en, G, ds, Q, rl, dv, ⟨e, q⟩, fin⟩ => by
  subst e
  cases dv
  exact ⟨rfl, fin σ en H G (Same.refl G) rl ⟨rfl, fun _ _ => rfl⟩ q⟩
theorem dgsCons (h1 : DG X e js g) (h2 : DGs X es ks gs) (hs : (assignEach (e :: es) X.env).map (·.2) = assign e X.env :: (assignEach es X.env).map (·.2) := by rfl) : DGs X (e :: es) (js ++ ks) (dgCons g gs) :=
  toGs (pgs_cons h1 h2 hs) fun x σ H R ⟨F, en, G, ds, Q, rl, dv, ⟨d, r, ed, q⟩, fin⟩ => by
    subst ed
    cases dv with
    | @cons x xs _ _ dx dr =>
      refine ⟨x, xs, rfl, F, en, G, .v d, _, rl, dx, (fun _ z => by cases z), q, fun σ1 en1 H1 G1 s1 R1 o1 q1 => ⟨F, en1, G1, r, Q, R1, dr.same s1, q1, fun σ2 en2 H2 G2 s2 R2 o2 q2 => fin σ2 en2 H2 G2 (s1.trans s2) R2 ⟨o2.1.trans o1.1, fun i hi => ?_⟩ q2⟩⟩
      rw [o2.2 i fun z => hi (List.mem_append_right _ z), o1.2 i fun z => hi (List.mem_append_left _ z)]
theorem FinG.mono {F : Fr} {σ : L2.St} {js : List Nat} {G G1 : Hp} {Q : Ev → Prop} {R : L2.St → Hp → Prop} (s : Same G G1) (fin : FinG F σ js G Q R) : FinG F σ js G1 Q R := fun σ' en' H' G' s' => fin σ' en' H' G' (s.trans s')
theorem dgTupTE {k n : Nat} (hc : X.calm = true) (h : DGs X es js gs) (hn : (assignEach es X.env).length = n := by rfl) (hst : (assignEach es X.env).findIdx? (·.1) = none := by rfl) : DG X (.Tuple es k pos) js (dgTupT n gs) :=
  toG (pg_tup hc h hn hst) fun x σ H R ⟨F, en, G, r, Q, rl, ok, l, q, fin⟩ => by
    obtain ⟨G1, d, s1, R1, dv, q⟩ := rl.use ok l q
    cases dv with
    | tup e a => exact ⟨_, _, rfl, .of (R1.bs.sub _ _ e), by rw [a.len]; exact q.1, F, en, G1, _, Q, R1, a, q.2, fin.mono s1⟩
    | _ => exact False.elim q
theorem pgOr {e : Expr} {t u : TG} (h : PG X e t) (k : PG X e u) : PG X e (fun v σ H Q => t v σ H Q ∨ u v σ H Q) := ⟨fun pins s σ H v w Q I r q => q.elim (h.run pins s σ H v w Q I r) (k.run pins s σ H v w Q I r)⟩
theorem dgTupE {k n : Nat} (hc : X.calm = true) (h : DGs X es js gs) (hn : (assignEach es X.env).length = n := by rfl) (hst : (assignEach es X.env).findIdx? (·.1) = none := by rfl) : DG X (.Tuple es k pos) js (dgTup n gs) :=
  toG (pgOr (pg_tup hc h hn hst) (pg_unl hc h hn hst)) fun x σ H R ⟨F, en, G, r, Q, rl, ok, l, q, fin⟩ => by
    obtain ⟨G1, d, s1, R1, dv, q⟩ := rl.use ok l q
    cases dv with
    | tup e a => exact .inl ⟨_, _, rfl, .of (R1.bs.sub _ _ e), by rw [a.len]; exact q.1, F, en, G1, _, Q, R1, a, q.2, fin.mono s1⟩
    | lst e a => exact .inr ⟨_, _, rfl, .of (R1.bs.sub _ _ e), by rw [a.len]; exact q.1, F, en, G1, _, Q, R1, a, q.2, fin.mono s1⟩
    | _ => exact False.elim q
end
theorem dvApp {H : Hp} : ∀ {a b : List V} {c d : List PyData}, DvAll H a c → DvAll H b d → DvAll H (a ++ b) (c ++ d)
  | [], _, [], _, _, h => h
  | _ :: _, _, _ :: _, _, .cons h t, k => .cons h (dvApp t k)
theorem dvAt {H : Hp} : ∀ {ys : List V} {ds : List PyData} {i : Nat} {x : V}, DvAll H ys ds → ys[i]? = some x → ∃ d, ds[i]? = some d ∧ Dv H x d
  | _, _, i, x, .nil, e => by simp at e
  | _, _, 0, x, .cons h _, e => ⟨_, rfl, by simp at e; exact e ▸ h⟩
  | _, _, i + 1, x, .cons _ t, e => by
    obtain ⟨d, e1, h⟩ := dvAt (i := i) t (by simpa using e)
    exact ⟨d, by simpa using e1, h⟩
theorem dvOf {H : Hp} : ∀ {ys : List V} {ds : List PyData} {i : Nat} {d : PyData}, DvAll H ys ds → ds[i]? = some d → ∃ x, ys[i]? = some x ∧ Dv H x d
  | _, _, i, x, .nil, e => by simp at e
  | _, _, 0, x, .cons h _, e => ⟨_, rfl, by simp at e; exact e ▸ h⟩
  | _, _, i + 1, x, .cons _ t, e => by
    obtain ⟨d, e1, h⟩ := dvOf (i := i) t (by simpa using e)
    exact ⟨d, by simpa using e1, h⟩
/-- is it one's own -/
def isOwnR : Option Rv → Prop
  | some (.own _) => True
  | some .non => False
  | some .deck => False
  | some (.glb _) => False
  | some (.ab _) => False
  | some (.v _) => False
  | none => False
def isOwn (en : Ev) (i : Nat) : Prop := isOwnR en[i]?
theorem isOwn.get {en : Ev} {i : Nat} (h : isOwn en i) : ∃ c, en[i]? = some (.own c) := by
  have h : isOwnR en[i]? := h
  match en[i]?, h with
  | some (.own c), _ => exact ⟨c, rfl⟩
def putR : Option Rv → PyData → (List PyData → Int → Prop) → Prop
  | some (.own (.lst ds)), .int k, P => P ds k
  | _, _, _ => False
theorem putR.get {o : Option Rv} {d : PyData} {P : List PyData → Int → Prop} (h : putR o d P) : ∃ ds k, o = some (.own (.lst ds)) ∧ d = .int k ∧ P ds k := by
  unfold putR at h
  split at h
  · exact ⟨_, _, rfl, rfl, h⟩
  · exact h.elim
/-- o[i] = e, o a name of one's own -/
def dgSet (i : Nat) (ti : DTE) : DTG := fun r en Q => isOwn en i ∧ asD r fun d => ti en fun ri en1 => asD ri fun di => putR en1[i]? di fun ds k => ∃ j, ixN ds.length k = some j ∧ Q (en1.set i (.own (.lst (ds.set j d))))
theorem DvAll.setV {H : Hp} {x : V} {d : PyData} (h : Dv H x d) : ∀ {xs : List V} {ds : List PyData} (j : Nat), DvAll H xs ds → DvAll H (xs.set j x) (ds.set j d)
  | _, _, _, .nil => .nil
  | _, _, 0, .cons _ t => .cons h t
  | _, _, j + 1, .cons a t => .cons a (DvAll.setV h j t)
theorem dgSetE {X : Cx} {pos : Pos} {o i : Expr} {n : Nat} {ti : DTE} (ho : PE X o (tVar n)) (hi : DE X i ti)
    (ha : ∀ v, assign (.Subscript o i pos) X.env v = (do
      let ov ← holding [v] (eval o X.env)
      let iv ← holding [v, ov] (eval i X.env)
      standAt pos
      holding [v, ov, iv] (setItem ov iv v)
      release [v, ov, iv] []) := by intro _; rfl) : DG X (.Subscript o i pos) [] (dgSet n ti) :=
  toG (pg_sub ho hi set_list ha) fun x σ H R ⟨F, en, G, r, Q, rl, ok, l, ⟨hown, q⟩, fin⟩ => by
    obtain ⟨G1, d, s1, R1, dv, q⟩ := rl.use ok l q
    obtain ⟨c0, e0⟩ := hown.get
    obtain ⟨a, o0, ea, _⟩ := R1.own e0
    refine ⟨_, ea, lift_data R1 q fun y H2 G2 di en2 s2 R2 dy q => ?_⟩
    obtain ⟨ds, k, e1, rfl, j, hj, q⟩ := putR.get q
    obtain ⟨a', o, e2, h1, h2, _⟩ := R2.own e1
    rw [ea] at e2
    cases e2
    cases o with
    | lst xs =>
      cases dy
      have h2 : DvAll G2 xs ds := h2
      have h3 : CtOk G2 (.lst (xs.set j x)) (.lst (ds.set j d)) := h2.setV (dv.same s2) j
      exact ⟨a, xs, k, j, rfl, rfl, h1, by rw [h2.len]; exact hj, fin σ _ _ G2 (s1.trans s2) (R2.write e1 ea h3) ⟨rfl, fun _ _ => rfl⟩ q⟩
    | _ => exact h2.elim
/-! ### statements -/
structure DEnds where
  nx : Ev → Prop
  rt : Rv → Prop
  bk : Ev → Prop := fun _ => False
  ct : Ev → Prop := fun _ => False
abbrev DTS := DEnds → Ev → Prop
structure FinS (F : Fr) (G : Hp) (D : DEnds) (D' : Ends) : Prop where
  nx : ∀ (σ' : L2.St) (en' : Ev) (H' G' : Hp), Same G G' → Rl F en' σ' H' G' → D.nx en' → D'.nx σ' H'
  bk : ∀ (σ' : L2.St) (en' : Ev) (H' G' : Hp), Same G G' → Rl F en' σ' H' G' → D.bk en' → D'.bk σ' H'
  ct : ∀ (σ' : L2.St) (en' : Ev) (H' G' : Hp), Same G G' → Rl F en' σ' H' G' → D.ct en' → D'.ct σ' H'
  rt : ∀ (x : V) (σ' : L2.St) (H' G' : Hp) (r : Rv) (en' : Ev), Same G G' → Rl F en' σ' H' G' → Ok F H' G' x r → D.rt r → D'.rt x H'
theorem FinS.mono {F : Fr} {G G1 : Hp} {D : DEnds} {D' : Ends} (f : FinS F G D D') (s : Same G G1) : FinS F G1 D D' :=
  ⟨fun σ' en' H' G' s' => f.nx σ' en' H' G' (s.trans s'), fun σ' en' H' G' s' => f.bk σ' en' H' G' (s.trans s'), fun σ' en' H' G' s' => f.ct σ' en' H' G' (s.trans s'), fun x σ' H' G' r en' s' => f.rt x σ' H' G' r en' (s.trans s')⟩
def liftS (t : DTS) : TS := fun D' σ H => ∃ (F : Fr) (en : Ev) (G : Hp) (D : DEnds), Rl F en σ H G ∧ t D en ∧ FinS F G D D'
def DS (X : Cx) (s : Stmt) (t : DTS) : Prop := L2.PS X s (liftS t)
def DSs (X : Cx) (s : List Stmt) (t : DTS) : Prop := PSs X s (liftS t)
theorem toS {X : Cx} {s : Stmt} {te : TS} {t : DTS} (h : L2.PS X s te) (w : ∀ D σ H, liftS t D σ H → te D σ H) : DS X s t := ⟨fun pins s σ H D I q => h.run pins s σ H D I (w D σ H q)⟩
theorem toSs {X : Cx} {s : List Stmt} {te : TS} {t : DTS} (h : PSs X s te) (w : ∀ D σ H, liftS t D σ H → te D σ H) : DSs X s t := ⟨fun pins s σ H D I q => h.run pins s σ H D I (w D σ H q)⟩
def dNext : DTS := fun D en => D.nx en
def dSeq (t u : DTS) : DTS := fun D en => t { D with nx := u D } en
def dDrop (t : DTE) : DTS := fun D en => t en fun _ en1 => D.nx en1
def dRet (t : DTE) : DTS := fun D en => t en fun r _ => D.rt r
def dRetVar (i : Nat) : DTS := fun D en => ∃ r, en[i]? = some r ∧ r ≠ .non ∧ D.rt r
def dRetN : DTS := fun D _ => D.rt (.v .none)
def dIfS (c : DTT) (t u : DTS) : DTS := fun D en => c en fun b en1 => if b = true then t D en1 else u D en1
def dAsg (t : DTE) (g : DTG) : DTS := fun D en => t en fun r en1 => g r en1 D.nx
def dNever : DTS := fun _ _ => False
def dCont : DTS := fun D en => D.ct en
def dBreak : DTS := fun D en => D.bk en
def dWhile (c : DTT) (tb : DTS) : DTS := fun D en => ∃ P : Nat → Ev → Prop, (∃ m, P m en) ∧ ∀ m e, P m e → c e fun b e1 => if b = true then tb { D with nx := fun e' => ∃ m', m' < m ∧ P m' e', ct := fun e' => ∃ m', m' < m ∧ P m' e', bk := D.nx } e1 else D.nx e1
def asV : Option Rv → (PyData → Prop) → Prop
  | some (.v d), P => P d
  | some (.own _), _ => False
  | some .non, _ => False
  | some .deck, _ => False
  | some (.glb _), _ => False
  | some (.ab _), _ => False
  | none, _ => False
theorem asV.get {o : Option Rv} {P : PyData → Prop} (h : asV o P) : ∃ d, o = some (.v d) ∧ P d := by
  match o, h with
  | some (.v d), h => exact ⟨d, rfl, h⟩
def dAug (i : Nat) (f : V2) (t : DTE) : DTS := fun D en => asV en[i]? fun d => t en fun r en1 => asD r fun d2 => f d d2 fun z => D.nx (en1.set i z)
section
variable {X : Cx} {s : Stmt} {e : Expr} {rest : List Stmt} {t u : DTS} {te : DTE} {pos : Pos} {js : List Nat} {g : DTG}
theorem dsNil : DSs X [] dNext := toSs pss_nil fun D σ H ⟨F, en, G, D1, rl, q, fin⟩ => fin.nx σ en H G (Same.refl G) rl q
theorem dsCons (h1 : DS X s t) (h2 : DSs X rest u) : DSs X (s :: rest) (dSeq t u) := toSs (pss_cons h1 h2) fun D σ H ⟨F, en, G, D1, rl, q, fin⟩ =>
  ⟨F, en, G, _, rl, q, ⟨fun σ' en' H' G' s' R' q' => ⟨F, en', G', D1, R', q', fin.mono s'⟩, fin.bk, fin.ct, fin.rt⟩⟩
theorem dsOne (h1 : DS X s t) : DSs X [s] t := pss_one h1
theorem dsNever : DS X s dNever := toS ps_never fun D σ H ⟨F, en, G, D1, rl, q, fin⟩ => q
theorem dsPass : DS X (.Pass pos) dNext := toS ps_pass fun D σ H ⟨F, en, G, D1, rl, q, fin⟩ => fin.nx σ en H G (Same.refl G) rl q
theorem dsBreak : DS X (.Break pos) dBreak := toS ps_break fun D σ H ⟨F, en, G, D1, rl, q, fin⟩ => fin.bk σ en H G (Same.refl G) rl q
theorem dsCont : DS X (.Continue pos) dCont := toS ps_continue fun D σ H ⟨F, en, G, D1, rl, q, fin⟩ => fin.ct σ en H G (Same.refl G) rl q
theorem dsExpr (he : DE X e te) (hs : swapsWith e none pos.line X.env = pure false := by rfl) : DS X (.Expr e pos) (dDrop te) := toS (ps_expr he hs) fun D σ H ⟨F, en, G, D1, rl, q, fin⟩ =>
  ⟨F, en, G, _, rl, q, fun x H' G' r en' s' R' ok l q' => fin.nx σ en' H' G' s' R' q'⟩
theorem dsRet (he : DE X e te) : DS X (.Return (some e) pos) (dRet te) := toS (ps_ret he) fun D σ H ⟨F, en, G, D1, rl, q, fin⟩ =>
  ⟨F, en, G, _, rl, q, fun x H' G' r en' s' R' ok l q' => fin.rt x σ H' G' r en' s' R' ok q'⟩
theorem dsRetVar {i : Nat} (he : PE X e (tVar i)) : DS X (.Return (some e) pos) (dRetVar i) := toS (ps_ret he) fun D σ H ⟨F, en, G, D1, rl, ⟨r, e1, n, q⟩, fin⟩ => by
  obtain ⟨x, e2, k⟩ := rl.slot i r e1 n
  exact ⟨x, e2, fin.rt x σ H G r en (Same.refl G) rl k q⟩
theorem dsRetN : DS X (.Return none pos) dRetN := toS ps_retN fun D σ H ⟨F, en, G, D1, rl, q, fin⟩ => fin.rt .non σ H G (.v .none) en (Same.refl G) rl (Dv.non (H := G)) q
theorem dsIf {c : Expr} {a b : List Stmt} {tc : DTT} (hc : DT X c tc) (ha : DSs X a t) (hb : DSs X b u) : DS X (.If c a b pos) (dIfS tc t u) := toS (ps_if hc ha hb) fun D σ H ⟨F, en, G, D1, rl, q, fin⟩ =>
  ⟨F, en, G, _, rl, q, fun d H1 G1 en1 s1 R1 q => by
    cases d with
    | true => exact ⟨F, en1, G1, D1, R1, q, fin.mono s1⟩
    | false => exact ⟨F, en1, G1, D1, R1, q, fin.mono s1⟩⟩
theorem lift_asg {t : TE} {gg : TG} {D : Ends} {σ : L2.St} {H : Hp} (ht : ∀ R, lift te σ H R → t σ H R) (hg : ∀ x H1 R, liftG js g x σ H1 R → gg x σ H1 R) (h : liftS (dAsg te g) D σ H) : tAsg t gg D σ H := by
  obtain ⟨F, en, G, D1, rl, q, fin⟩ := h
  exact ht _ ⟨F, en, G, _, rl, q, fun x H1 G1 r en1 s1 R1 ok l q => hg _ _ _ ⟨F, en1, G1, r, _, R1, ok, l, q, fun σ' en' H' G' s' R' _ q' => fin.nx σ' en' H' G' (s1.trans s') R' q'⟩⟩
theorem dsAsg {tg : Expr} (he : DE X e te) (hg : DG X tg js g) (hs : swapsWithSole [tg] e pos.line X.env = pure false := by rfl) (hw : swappedStores [tg] e X.env = pure none := by rfl)
    (h1 : (assignEach [tg] X.env).map (·.2) = [assign tg X.env] := by rfl) : DS X (.Assign [tg] e pos) (dAsg te g) := toS (ps_asg he hg hs hw h1) fun D σ H h => lift_asg (fun _ x => x) (fun _ _ _ x => x) h
theorem lift_name {i : Nat} {x : V} {σ : L2.St} {H : Hp} {R : L2.St → Hp → Prop} (h : liftG [i] (dgName i) x σ H R) : gName i x σ H R := by
  obtain ⟨F, en, G, r, Q, rl, ok, l, q, fin⟩ := h
  exact fin _ _ H G (Same.refl G) (rl.asg i ok l) ⟨List.length_set, fun j hj => by rw [List.getElem?_set_ne fun z => hj (by rw [z]; exact List.mem_cons_self)]⟩ q
theorem dsSet {i : Nat} {x : Str} {pos' : Pos} (hN : X.N.Nodup) (hi : X.N[i]? = some x) (hx : Loc X.env.scope x) (he : DE X e te) (hs : swapsWith e (some (.Name x pos')) pos.line X.env = pure false := by rfl) (hf : X.fn x = true ∨ X.env.scope.names.lookup x = some .local := by first | exact .inl rfl | exact .inr rfl | assumption) :
    DS X (.Assign [.Name x pos'] e pos) (dAsg te (dgName i)) := toS (ps_set hN hi hx he hs hf) fun D σ H h => lift_asg (js := [i]) (fun _ x => x) (fun _ _ _ x => lift_name x) h
theorem dsWhile {c : Expr} {body : List Stmt} {tc : DTT} {tb : DTS} (hp : PassesOwn (model X.prog X.w) X.A X.env X.xe) (hc : DT X c tc) (hb : DSs X body tb) : DS X (.While c body [] pos) (dWhile tc tb) :=
  toS (ps_while hp hc hb) fun D σ H ⟨F, en, G, D1, rl, ⟨P, ⟨m0, p0⟩, step⟩, fin⟩ => by
    refine ⟨fun m σ H => ∃ e G2, Same G G2 ∧ Rl F e σ H G2 ∧ P m e, ⟨m0, en, G, Same.refl G, rl, p0⟩, ?_⟩
    rintro m σ1 H1 ⟨e1, G1, s1, R1, p1⟩
    refine ⟨F, e1, G1, _, R1, step m e1 p1, fun b H2 G2 e2 s2 R2 q => ?_⟩
    cases b with
    | false =>
      rw [if_neg Bool.false_ne_true] at q ⊢
      exact fin.nx σ1 e2 H2 G2 (s1.trans s2) R2 q
    | true =>
      rw [if_pos rfl] at q ⊢
      refine ⟨fun σ' H' => ∃ m', m' < m ∧ ∃ e G2, Same G G2 ∧ Rl F e σ' H' G2 ∧ P m' e, fun σ' H' ⟨m', hm, h⟩ => ⟨m', hm, h⟩, F, e2, G2, _, R2, q, ⟨?_, ?_, ?_, ?_⟩⟩
      · rintro σ' e' H' G' s' R' ⟨m', hm, p'⟩
        exact ⟨m', hm, e', G', (s1.trans s2).trans s', R', p'⟩
      · exact fun σ' e' H' G' s' R' q' => fin.nx σ' e' H' G' ((s1.trans s2).trans s') R' q'
      · rintro σ' e' H' G' s' R' ⟨m', hm, p'⟩
        exact ⟨m', hm, e', G', (s1.trans s2).trans s', R', p'⟩
      · exact fun x σ' H' G' r e' s' => fin.rt x σ' H' G' r e' ((s1.trans s2).trans s')
theorem dsAug {i : Nat} {x : Str} {op : Operator} {f : V2} {pos' : Pos} (hN : X.N.Nodup) (hi : X.N[i]? = some x) (hx : Loc X.env.scope x) (he : DE X e te) (ho : PIp X op (liftR2 f)) (hf : X.fn x = true ∨ X.env.scope.names.lookup x = some .local := by first | exact .inl rfl | exact .inr rfl | assumption) :
    DS X (.AugAssign (.Name x pos') op e pos) (dAug i f te) := toS (ps_aug hN hi hx he ho hf) fun D σ H ⟨F, en, G, D1, rl, q, fin⟩ => by
  obtain ⟨d, ei, q⟩ := asV.get q
  obtain ⟨y, e1, k⟩ := rl.slot i _ ei nofun
  have k : Dv G y d := k
  refine ⟨y, e1, lift_data rl q fun z H1 G1 d1 en1 s1 R1 v1 h1 => ⟨F, G1, d, d1, _, R1.bs, k.same s1, v1, h1, fun w H2 G2 r S ok q => ?_⟩⟩
  obtain ⟨R2, ok2, l2⟩ := R1.res' S ok
  exact fin.nx _ _ H2 G2 (s1.trans S.part) (R2.asg i ok2 l2) q
end
end Vf
set_option backward.eqns.nonrecursive true
namespace Vf
open PySem L2 PyProof.Rows PySem.Spec
/-! ## readings by values: walks, comprehensions, calls -/
structure DStep (F : Fr) (J : It) (ds : List PyData) (G : Hp) : Prop where
  stop : ∀ H, Same G H → J.stop ds.length H
  go : ∀ i H, i < ds.length → Same G H → J.go i H
  yld : ∀ i H G1 x H', i < ds.length → Bs F H G1 → Same G G1 → J.yld i H x H' → ∃ G2 d, Stp F H G1 H' G2 ∧ Dv G2 x d ∧ ds[i]? = some d
theorem DStep.mono {F : Fr} {J : It} {ds : List PyData} {G G' : Hp} (h : DStep F J ds G) (s : Same G G') : DStep F J ds G' :=
  ⟨fun H z => h.stop H (s.trans z), fun i H hi z => h.go i H hi (s.trans z), fun i H G1 x H' hi b z => h.yld i H G1 x H' hi b (s.trans z)⟩
abbrev DTI := Ev → (List PyData → Ev → Prop) → Prop
def liftI (t : DTI) : TI := fun σ H R => ∃ (F : Fr) (en : Ev) (G : Hp) (Q : List PyData → Ev → Prop), Rl F en σ H G ∧ t en Q ∧ ∀ (J : It) (H' G' : Hp) (ds : List PyData) (en' : Ev), Same G G' → Rl F en' σ H' G' → DStep F J ds G' → Q ds en' → R J H'
def DI (X : Cx) (tg iter : Expr) (t : DTI) : Prop := PI X tg iter (liftI t)
theorem toI {X : Cx} {tg e : Expr} {te : TI} {t : DTI} (h : PI X tg e te) (w : ∀ σ H R, liftI t σ H R → te σ H R) : DI X tg e t := ⟨fun pins s σ H R I q => h.run pins s σ H R I (w σ H R q)⟩
/-- what a sequence walks -/
def asSeq : PyData → (List PyData → Prop) → Prop
  | .list ds, P => P ds
  | .tuple ds, P => P ds
  | .str s, P => P (s.cps.toList.map fun c => .str ⟨#[c]⟩)
  | _, _ => False
def dWalk (t : DTE) : DTI := fun en Q => t en fun r en1 => asD r fun d => asSeq d fun ds => Q ds en1
theorem step_list {F : Fr} {K : PySem.W.Frag} {a : Addr} {xs : List V} {ds : List PyData} {G : Hp} (e : G a = some (.lst xs)) (h : DvAll G xs ds) : DStep F (Itl K a) ds G where
  stop := fun H s => ⟨xs, .of (s _ _ e), by rw [h.len]; exact Nat.le_refl _⟩
  go := fun i H hi s => ⟨xs, xs[i]'(by rw [h.len]; exact hi), .of (s _ _ e), by simp [h.len, hi]⟩
  yld := fun i H G1 x H' hi b s y => by
    obtain ⟨rfl, f⟩ := y
    obtain ⟨d, e1, dv⟩ := dvAt h (f xs (.of (b.sub _ _ (s _ _ e))))
    exact ⟨G1, d, b.refl, dv.same s, e1⟩
theorem step_tup {F : Fr} {K : PySem.W.Frag} {a : Addr} {xs : List V} {ds : List PyData} {G : Hp} (e : G a = some (.tup xs)) (h : DvAll G xs ds) : DStep F (Itt K a) ds G where
  stop := fun H s => ⟨xs, .of (s _ _ e), by rw [h.len]; exact Nat.le_refl _⟩
  go := fun i H hi s => ⟨xs, xs[i]'(by rw [h.len]; exact hi), .of (s _ _ e), by simp [h.len, hi]⟩
  yld := fun i H G1 x H' hi b s y => by
    obtain ⟨rfl, f⟩ := y
    obtain ⟨d, e1, dv⟩ := dvAt h (f xs (.of (b.sub _ _ (s _ _ e))))
    exact ⟨G1, d, b.refl, dv.same s, e1⟩
theorem step_str {F : Fr} {s : Str} {G : Hp} : DStep F (Its s) (s.cps.toList.map fun c => .str ⟨#[c]⟩) G where
  stop := fun H _ => (steps_str s).stop H trivial |> fun h => by
    have e : (signs s).length = (s.cps.toList.map fun c => PyData.str ⟨#[c]⟩).length := by simp [signs]
    rw [← e]; exact h
  go := fun i H hi _ => (steps_str s).go i H (by simpa [signs] using hi) trivial
  yld := fun i H G1 x H' hi b _ y => by
    obtain ⟨e, rfl⟩ := (steps_str s).yld i H x H' (by simpa [signs] using hi) trivial y
    unfold signs at e
    rw [List.getElem?_map] at e
    cases ec : s.cps.toList[i]? with
    | none => rw [ec] at e; cases e
    | some c =>
      rw [ec] at e
      cases e
      exact ⟨G1, _, b.refl, .str _, by rw [List.getElem?_map, ec]; rfl⟩
def wholesD (lo : Int) (n : Nat) : List PyData := (List.range n).map fun (i : Nat) => PyData.int (lo + (i : Int))
theorem step_range {F : Fr} {lo : Int} {n : Nat} {G : Hp} : DStep F (Itr lo n) (wholesD lo n) G where
  stop := fun H _ => by show n ≤ _; simp [wholesD]
  go := fun i H hi _ => by show i < n; simpa [wholesD] using hi
  yld := fun i H G1 x H' hi b _ y => by
    obtain ⟨rfl, rfl⟩ := y
    exact ⟨G1, _, b.refl, .int _, by
      have hn : i < n := by simpa [wholesD] using hi
      unfold wholesD
      rw [List.getElem?_map, List.getElem?_range hn]
      rfl⟩
section
variable {X : Cx} {tg e : Expr} {te : DTE} {pos : Pos}
theorem diWalk (he : DE X e te) : DI X tg e (dWalk te) := toI (piAny he) fun σ H R ⟨F, en, G, Q, rl, h, fin⟩ => lift_data rl h fun x H1 G1 d en1 s1 R1 dv q => by
  cases dv with
  | str s => exact fin _ H1 G1 _ en1 s1 R1 step_str q
  | lst e a => exact .inl ⟨⟨_, .of (R1.bs.sub _ _ e)⟩, fin _ H1 G1 _ en1 s1 R1 (step_list e a) q⟩
  | tup e a => exact .inr ⟨⟨_, .of (R1.bs.sub _ _ e)⟩, fin _ H1 G1 _ en1 s1 R1 (step_tup e a) q⟩
  | _ => exact False.elim q
def asI1 : List PyData → (Int → Prop) → Prop
  | [.int j], P => P j
  | _, _ => False
def asI2 : List PyData → (Int → Int → Prop) → Prop
  | [.int i, .int j], P => P i j
  | _, _ => False
def dRange1 (t : DTA) : DTI := fun en Q => t en fun rs en1 => allD rs fun ds => asI1 ds fun j => -(2 ^ 62) ≤ j ∧ j < 2 ^ 62 ∧ Q (wholesD 0 j.toNat) en1
def dRange2 (t : DTA) : DTI := fun en Q => t en fun rs en1 => allD rs fun ds => asI2 ds fun i j => (-(2 ^ 62) ≤ i ∧ i < 2 ^ 62 ∧ -(2 ^ 62) ≤ j ∧ j < 2 ^ 62) ∧ Q (wholesD i (j - i).toNat) en1
variable {a b : Expr} {ta : DTA} {p : Pos}
theorem diRange1 (hg : Gl X "range") (hm : X.mg "range" = none) (ha : DA X [a] ta) (hs : starEach [a] X.env = [(false, eval a X.env)] := by rfl) : DI X tg (.Call (.Name "range" p) [a] [] pos) (dRange1 ta) :=
  toI (pi_range1 hg hm ha hs) fun σ H R ⟨F, en, G, Q, rl, h, fin⟩ => liftA_data rl h fun xs H1 G1 ds en1 s1 R1 dv q => by
    unfold asI1 at q
    split at q
    · next j =>
      cases dv with
      | cons h1 h2 =>
        cases h1
        cases h2
        exact ⟨j, rfl, q.1, q.2.1, fin _ H1 G1 _ en1 s1 R1 step_range q.2.2⟩
    · exact q.elim
theorem diRange2 (hg : Gl X "range") (hm : X.mg "range" = none) (ha : DA X [a, b] ta) (hs : starEach [a, b] X.env = [(false, eval a X.env), (false, eval b X.env)] := by rfl) (hs2 : starEach [b] X.env = [(false, eval b X.env)] := by rfl) :
    DI X tg (.Call (.Name "range" p) [a, b] [] pos) (dRange2 ta) :=
  toI (pi_range2 hg hm ha hs hs2) fun σ H R ⟨F, en, G, Q, rl, h, fin⟩ => liftA_data rl h fun xs H1 G1 ds en1 s1 R1 dv q => by
    unfold asI2 at q
    split at q
    · next i j =>
      cases dv with
      | cons h1 h2 =>
        cases h1
        cases h2 with
        | cons h2 h3 =>
          cases h2
          cases h3
          exact ⟨i, j, rfl, q.1, fin _ H1 G1 _ en1 s1 R1 step_range q.2⟩
    · exact q.elim
/-! ### for -/
def dFor (di : DTI) (g : DTG) (tb : DTS) : DTS := fun D en => di en fun ds en1 => ∃ P : Nat → Ev → Prop, P 0 en1 ∧ (∀ i d e, ds[i]? = some d → P i e → g (.v d) e fun e2 => tb { D with nx := P (i + 1), ct := P (i + 1), bk := D.nx } e2) ∧ ∀ e, P ds.length e → D.nx e
theorem dsFor {iter : Expr} {body : List Stmt} {di : DTI} {js : List Nat} {g : DTG} {tb : DTS} (hp : PassesOwn (model X.prog X.w) X.A X.env X.xe) (hc : X.calm = true) (hi : DI X tg iter di) (hg : DG X tg js g) (hb : DSs X body tb)
    (hs : ∀ x, foldedSetIterable iter X.env x = pure x := by intro _; rfl) : DS X (.For tg iter body [] pos) (dFor di g tb) := toS (ps_for hp hc hi hg hb hs) fun D σ H ⟨F, en, G, D1, rl, q, fin⟩ => by
  refine ⟨F, en, G, _, rl, q, fun J H1 G1 ds en1 s1 R1 st ⟨P, p0, step, last⟩ => ?_⟩
  refine ⟨fun i m σ H => i + m = ds.length ∧ ∃ e G2, Same G1 G2 ∧ Rl F e σ H G2 ∧ P i e, ⟨ds.length, Nat.zero_add _, en1, G1, Same.refl _, R1, p0⟩, ?_⟩
  rintro i m σ2 H2 ⟨em, e2, G2, s2, R2, p2⟩
  cases m with
  | zero =>
    have e : i = ds.length := by omega
    subst e
    exact .inl ⟨st.stop H2 (s2.trans R2.bs.sub), fin.nx σ2 e2 H2 G2 (s1.trans s2) R2 (last e2 p2)⟩
  | succ m =>
    have hi : i < ds.length := by omega
    refine .inr ⟨st.go i H2 hi (s2.trans R2.bs.sub), fun σ' H' => ∃ e G3, Same G1 G3 ∧ Rl F e σ' H' G3 ∧ P (i + 1) e, fun σ' H' h => ⟨m, Nat.lt_succ_self _, by omega, h⟩, fun x H3 y => ?_⟩
    obtain ⟨G3, d, S, dv, ed⟩ := st.yld i H2 G2 x H3 hi R2.bs s2 y
    have s3 := s2.trans S.part
    refine ⟨F, e2, G3, .v d, _, R2.step S, dv, (fun _ z => by cases z), step i d e2 ed p2, fun σ4 e4 H4 G4 s4 R4 _ q4 => ⟨F, e4, G4, _, R4, q4, ⟨?_, ?_, ?_, ?_⟩⟩⟩
    · exact fun σ5 e5 H5 G5 s5 R5 q5 => ⟨e5, G5, (s3.trans s4).trans s5, R5, q5⟩
    · exact fun σ5 e5 H5 G5 s5 R5 q5 => fin.nx σ5 e5 H5 G5 (((s1.trans s3).trans s4).trans s5) R5 q5
    · exact fun σ5 e5 H5 G5 s5 R5 q5 => ⟨e5, G5, (s3.trans s4).trans s5, R5, q5⟩
    · exact fun x σ5 H5 G5 r e5 s5 => fin.rt x σ5 H5 G5 r e5 (((s1.trans s3).trans s4).trans s5)
end
/-! ### comprehensions -/
def wipeE (en : Ev) : List Nat → Ev
  | [] => en
  | v :: vs => (wipeE en vs).set v .non
theorem wipeE_out {en : Ev} {i : Nat} : ∀ {vs : List Nat}, i ∉ vs → (wipeE en vs)[i]? = en[i]?
  | [], _ => rfl
  | v :: vs, h => by
    unfold wipeE
    rw [List.getElem?_set_ne fun e => h (by rw [e]; exact List.mem_cons_self), wipeE_out fun m => h (List.mem_cons_of_mem _ m)]
theorem wipeE_len (en : Ev) : ∀ vs : List Nat, (wipeE en vs).length = en.length
  | [] => rfl
  | v :: vs => by unfold wipeE; rw [List.length_set, wipeE_len en vs]
theorem wipeE_in {en : Ev} {i : Nat} {r : Rv} : ∀ {vs : List Nat}, i ∈ vs → (wipeE en vs)[i]? = some r → r = .non
  | v :: vs, h, e => by
    unfold wipeE at e
    rcases get_set e with ⟨_, _, rfl⟩ | ⟨hv, e⟩
    · rfl
    · rcases List.mem_cons.mp h with z | z
      · exact absurd z hv
      · exact wipeE_in z e
theorem Rl.wiped {F : Fr} {en : Ev} {σ σ' : L2.St} {H G : Hp} {vs : List Nat} (R : Rl F en σ H G) (hl : σ'.length = σ.length) (ho : ∀ i, i ∉ vs → σ'[i]? = σ[i]?) : Rl F (wipeE en vs) σ' H G := by
  have own : ∀ {i : Nat} {r : Rv}, (wipeE en vs)[i]? = some r → r ≠ .non → i ∉ vs ∧ en[i]? = some r := fun {i r} e n => by
    by_cases hi : i ∈ vs
    · exact absurd (wipeE_in hi e) n
    · exact ⟨hi, by rw [← wipeE_out hi]; exact e⟩
  refine ⟨R.d0, R.bs, R.st, fun i r e n => ?_, fun i j c c' e1 e2 e3 => ?_, by rw [wipeE_len, R.len, hl]⟩
  · obtain ⟨hi, e⟩ := own e n
    rw [ho i hi]
    exact R.slot i r e n
  · obtain ⟨h1, e1⟩ := own e1 (by nofun)
    obtain ⟨h2, e2⟩ := own e2 (by nofun)
    rw [ho i h1, ho j h2] at e3
    exact R.dist i j c c' e1 e2 e3
theorem wipe_eq {σ σ' : L2.St} : ∀ {vs : List Nat}, σ'.length = σ.length → (∀ i, i ∉ vs → σ'[i]? = σ[i]?) → wipe σ' vs = wipe σ vs := fun {vs} hl ho => by
  apply List.ext_getElem?
  intro i
  by_cases hi : i ∈ vs
  · have key : ∀ (τ : L2.St) (ws : List Nat), i ∈ ws → i < τ.length → (wipe τ ws)[i]? = some none := by
      intro τ ws
      induction ws with
      | nil => exact fun h => absurd h List.not_mem_nil
      | cons w ws ih =>
        intro h hlt
        unfold wipe
        by_cases e : w = i
        · subst e
          rw [List.getElem?_set_self (by rw [wipe_length]; exact hlt)]
        · rw [List.getElem?_set_ne e]
          rcases List.mem_cons.mp h with z | z
          · exact absurd z.symm e
          · exact ih z hlt
    by_cases hlt : i < σ.length
    · rw [key σ' vs hi (by omega), key σ vs hi hlt]
    · rw [List.getElem?_eq_none (by rw [wipe_length]; omega), List.getElem?_eq_none (by rw [wipe_length]; omega)]
  · rw [wipe_out hi, wipe_out hi, ho i hi]
def dLc (di : DTI) (g : DTG) (tt : DTT) (te : DTE) (vs : List Nat) : DTE := fun en Q => di en fun ds en1 => ∃ P : Nat → List PyData → Ev → Prop, P 0 [] (wipeE en1 vs) ∧
  (∀ i d acc e, ds[i]? = some d → P i acc e → g (.v d) e fun e2 => tt e2 fun b e3 => if b = true then te e3 fun r e4 => asD r fun y => acc.length < sizeLine ∧ P (i + 1) (acc ++ [y]) (wipeE e4 vs) else P (i + 1) acc (wipeE e3 vs)) ∧
  ∀ acc e, P ds.length acc e → Q (.own (.lst acc)) e
/-- no name has it, and nothing that stays -/
theorem Rl.beside {F : Fr} {en : Ev} {σ : L2.St} {H G : Hp} {a : Addr} {o : HO} (R : Rl F en σ H G) (n : G a = none) (nk : ¬ F.dk a) (n0 : F.H0 a = none) (ap : Apart en σ (.ref a)) : Rl F en σ (upd H a o) G := by
  have dok : F.dok (upd H a o) := F.keep H _ R.bs.dok fun b u hb eb => by
    rw [upd_ne fun z => nk (by rw [← z]; exact hb)]
    exact eb
  have sub : Same G (upd H a o) := fun b u eb => by
    rw [upd_ne fun z => by rw [z, n] at eb; cases eb]
    exact R.bs.sub b u eb
  refine ⟨R.d0, ⟨dok, sub, R.bs.nd⟩, ⟨dok, fun b u eb hb => ?_, sub, R.st.nd, R.st.part, R.st.only⟩, fun i r ei nr => ?_, R.dist, R.len⟩
  · rw [upd_ne fun z => by rw [z, n0] at eb; cases eb]
    exact R.st.big b u eb hb
  · obtain ⟨x, e1, hx⟩ := R.slot i r ei nr
    refine ⟨x, e1, ?_⟩
    cases r with
    | non => trivial
    | v d => exact hx
    | own d =>
      obtain ⟨b, u, rfl, g1, g2, g3, g4, g5⟩ := hx
      exact ⟨b, u, rfl, by rw [upd_ne fun z => ap i d ei (by rw [e1, z])]; exact g1, g2, g3, g4, g5⟩
    | deck => exact hx
    | glb v => exact hx
    | ab A => exact hx
theorem Apart.wipe {en : Ev} {σ σ' : L2.St} {x : V} {vs : List Nat} (h : Apart en σ x) (ho : ∀ i, i ∉ vs → σ'[i]? = σ[i]?) : Apart (wipeE en vs) σ' x := fun i c e => by
  by_cases hi : i ∈ vs
  · exact absurd (wipeE_in hi e) (by nofun)
  · rw [ho i hi]
    exact h i c (by rw [← wipeE_out hi]; exact e)
/-- the state of a comprehension: the list at Dd beside -/
structure Lcs (F : Fr) (G1 : Hp) (σ : L2.St) (Dd : Addr) (vs : List Nat) (e : Ev) (acc : List PyData) (H : Hp) : Prop where
  ex : ∃ (G2 : Hp) (xs : List V), Same G1 G2 ∧ Rl F e (wipe σ vs) H G2 ∧ H Dd = some (.lst xs) ∧ DvAll G2 xs acc ∧ G2 Dd = none ∧ ¬ F.dk Dd ∧ F.H0 Dd = none ∧ Apart e (wipe σ vs) (.ref Dd) ∧ ∀ i r, i ∈ vs → e[i]? = some r → r = .non
theorem lcs_new {F : Fr} {en : Ev} {σ : L2.St} {H G : Hp} {Dd : Addr} {vs : List Nat} (R : Rl F en σ H G) (n : H Dd = none) : Lcs F G σ Dd vs (wipeE en vs) [] (upd H Dd (.lst [])) := by
  have S := R.bs.same (same_upd (o := .lst []) n)
  have R' := R.step S
  have Rw := R'.wiped (vs := vs) (σ' := wipe σ vs) (wipe_length σ vs) fun i hi => wipe_out hi
  have n0 : F.H0 Dd = none := by
    cases e : F.H0 Dd with
    | none => rfl
    | some u => exact absurd n (R.st.still R.d0 (by rw [e]; nofun))
  exact ⟨G, [], Same.refl G, Rw, upd_same, .nil, R.bs.sub.free n, fun d => F.has _ _ R.bs.dok d n, n0, (R.apart n).wipe fun i hi => wipe_out hi, fun i r hi e => wipeE_in hi e⟩
/-- one more -/
theorem lcs_end {F : Fr} {e : Ev} {σ : L2.St} {H G1 : Hp} {Dd : Addr} {vs : List Nat} {acc : List PyData} (h : Lcs F G1 σ Dd vs e acc H) : ∃ G2, Same G1 G2 ∧ Rl F e σ H G2 ∧ Ok F H G2 (.ref Dd) (.own (.lst acc)) ∧ Lone e σ (.ref Dd) (.own (.lst acc)) := by
  obtain ⟨G2, xs, s, R, e1, dv, n, nk, n0, ap, out⟩ := h.ex
  have ho : ∀ i, i ∉ vs → σ[i]? = (wipe σ vs)[i]? := fun i hi => (wipe_out hi).symm
  have Re : Rl F e σ H G2 := by
    refine ⟨R.d0, R.bs, R.st, fun i r ei nr => ?_, fun i j c c' h1 h2 h3 => ?_, by rw [R.len, wipe_length]⟩
    · by_cases hi : i ∈ vs
      · exact absurd (out i r hi ei) nr
      · rw [ho i hi]
        exact R.slot i r ei nr
    · have hi : i ∉ vs := fun z => by cases out i _ z h1
      have hj : j ∉ vs := fun z => by cases out j _ z h2
      rw [ho i hi, ho j hj] at h3
      exact R.dist i j c c' h1 h2 h3
  refine ⟨G2, s, Re, ⟨Dd, _, rfl, e1, dv, n, nk, n0⟩, fun c _ i c' ei q => ?_⟩
  have hi : i ∉ vs := fun z => by cases out i _ z ei
  rw [ho i hi] at q
  exact ap i c' ei q
/-- the block's end: what was held beside stands as it was -/
theorem lcs_held {F : Fr} {e : Ev} {σ σ2 : L2.St} {H G G1 : Hp} {Dd : Addr} {vs : List Nat} {acc : List PyData} {xs : List V} (R : Rl (F.add Dd (.lst xs)) e σ2 H G) (d0 : F.dok F.H0) (s : Same G1 G) (dv : DvAll G xs acc) (nk : ¬ F.dk Dd) (n0 : F.H0 Dd = none) (ng : F.G0 Dd = none) (hw : wipe σ2 vs = wipe σ vs) :
    H Dd = some (.lst xs) ∧ (∀ x y, Dv G x y → Lcs F G1 σ Dd vs (wipeE e vs) (acc ++ [y]) (upd H Dd (.lst (xs ++ [x])))) ∧ Lcs F G1 σ Dd vs (wipeE e vs) acc H := by
  obtain ⟨R', e1, n, ap⟩ := R.unhold (fun _ => nofun) d0 n0 nk ng
  have go : ∀ (ys : List V) (bc : List PyData), DvAll G ys bc → Lcs F G1 σ Dd vs (wipeE e vs) bc (upd H Dd (.lst ys)) := fun ys bc h => by
    have Rb := R'.beside (o := .lst ys) n nk n0 ap
    have Rw := Rb.wiped (vs := vs) (σ' := wipe σ2 vs) (wipe_length σ2 vs) fun i hi => wipe_out hi
    rw [hw] at Rw
    have apw := ap.wipe (vs := vs) (σ' := wipe σ2 vs) fun i hi => wipe_out hi
    rw [hw] at apw
    exact ⟨G, ys, s, Rw, upd_same, h, n, nk, n0, apw, fun i r hi e => wipeE_in hi e⟩
  refine ⟨e1, fun x y h => go _ _ (dvApp dv (.cons h .nil)), ?_⟩
  have h := go xs acc dv
  have eq : upd H Dd (.lst xs) = H := by
    funext b
    by_cases hb : b = Dd
    · rw [hb, upd_same, e1]
    · exact upd_ne hb
  rw [eq] at h
  exact h
/-- the loop of a comprehension, from a list made so far -/
theorem lc_loop {F : Fr} {G1 : Hp} {J : It} {ds : List PyData} {js : List Nat} {g : DTG} {tt : DTT} {te : DTE} {vs : List Nat} {σ : L2.St} {H0 : Hp} {Dd : Addr} {e0 : Ev} {acc0 : List PyData} {Nx : Hp → Prop} (hj : ∀ i ∈ js, i ∈ vs) (st : DStep F J ds G1) (l0 : Lcs F G1 σ Dd vs e0 acc0 H0)
    (P : Nat → List PyData → Ev → Prop) (p0 : P 0 acc0 e0) (step : ∀ i d acc e, ds[i]? = some d → P i acc e → g (.v d) e fun e2 => tt e2 fun b e3 => if b = true then te e3 fun r e4 => asD r fun y => acc.length < sizeLine ∧ P (i + 1) (acc ++ [y]) (wipeE e4 vs) else P (i + 1) acc (wipeE e3 vs))
    (last : ∀ acc e H, Lcs F G1 σ Dd vs e acc H → P ds.length acc e → Nx H) :
    ∃ W : Nat → Nat → Hp → Prop, (∃ m, W 0 m H0) ∧ ∀ i m H, W i m H → (J.stop i H ∧ Nx H) ∨
      (J.go i H ∧ ∃ Nx1 : Hp → Prop, (∀ H', Nx1 H' → ∃ m', m' < m ∧ W (i + 1) m' H') ∧ ∀ x H', J.yld i H x H' → liftG js g x (wipe σ vs) H' fun σ2 H2 => wipe σ2 vs = wipe σ vs ∧ liftT tt σ2 H2 fun b H3 =>
        if b = true then lift te σ2 H3 fun y H4 => ∃ acc, H4 Dd = some (.lst acc) ∧ acc.length < sizeLine ∧ Nx1 (upd H4 Dd (.lst (acc ++ [y]))) else Nx1 H3) := by
  refine ⟨fun i m H => i + m = ds.length ∧ ∃ e acc, Lcs F G1 σ Dd vs e acc H ∧ P i acc e, ⟨ds.length, Nat.zero_add _, _, _, l0, p0⟩, ?_⟩
  rintro i m H2 ⟨em, e2, acc, lc, p2⟩
  cases m with
  | zero =>
    have e : i = ds.length := by omega
    subst e
    obtain ⟨G2, s2, R2, -, -⟩ := lcs_end lc
    exact .inl ⟨st.stop H2 (s2.trans R2.bs.sub), last acc e2 H2 lc p2⟩
  | succ m =>
    have hi : i < ds.length := by omega
    obtain ⟨G2, xs, s2, R2, e1, dv, n, nk, n0, ap, out⟩ := lc.ex
    refine .inr ⟨st.go i H2 hi (s2.trans R2.bs.sub), fun H' => ∃ e acc, Lcs F G1 σ Dd vs e acc H' ∧ P (i + 1) acc e, fun H' h => ⟨m, Nat.lt_succ_self _, by omega, h⟩, fun x H3 y => ?_⟩
    obtain ⟨G3, d, S, dx, ed⟩ := st.yld i H2 G2 x H3 hi R2.bs s2 y
    have s3 := s2.trans S.part
    have R3 := R2.step S
    have e3 := S.big _ _ e1 nk
    have n3 := S.only _ _ e1 (fun _ => nofun) n
    have Rh := R3.hold e3 n3 nk ap
    have ng : F.G0 Dd = none := by
      cases z : F.G0 Dd with
      | none => rfl
      | some u => rw [R3.st.part _ _ z] at n3; cases n3
    have dv3 := dv.same S.part
    refine ⟨F.add Dd (.lst xs), e2, G3, .v d, _, Rh, dx, (fun _ z => by cases z), step i d acc e2 ed p2, fun σ4 e4 H4 G4 s4 R4 o4 q4 => ?_⟩
    have hl4 : σ4.length = (wipe σ vs).length := o4.1
    have hw : wipe σ4 vs = wipe σ vs := by
      rw [wipe_eq (σ := wipe σ vs) hl4 fun j hjv => o4.2 j fun z => hjv (hj j z)]
      exact wipe_eq (wipe_length σ vs) fun j hjv => wipe_out hjv
    refine ⟨hw, _, e4, G4, _, R4, q4, fun b H5 G5 e5 s5 R5 q5 => ?_⟩
    cases b with
    | true =>
      rw [if_pos rfl] at q5 ⊢
      refine lift_data R5 q5 fun z H6 G6 y' e6 s6 R6 dz ⟨hz, p6⟩ => ?_
      obtain ⟨h1, h2, -⟩ := lcs_held (G1 := G1) (vs := vs) R6 R3.d0 (((s3.trans s4).trans s5).trans s6) (((dv3.same s4).same s5).same s6) nk n0 ng hw
      exact ⟨xs, h1, by rw [dv.len]; exact hz, _, _, h2 z y' dz, p6⟩
    | false =>
      rw [if_neg Bool.false_ne_true] at q5 ⊢
      obtain ⟨-, -, h3⟩ := lcs_held (G1 := G1) (vs := vs) R5 R3.d0 ((s3.trans s4).trans s5) ((dv3.same s4).same s5) nk n0 ng hw
      exact ⟨_, _, h3, q5⟩
theorem lift_lc {di : DTI} {js : List Nat} {g : DTG} {tt : DTT} {te : DTE} {vs : List Nat} {σ : L2.St} {H : Hp} {R : VK} (hj : ∀ i ∈ js, i ∈ vs) (h : lift (dLc di g tt te vs) σ H R) : tLc (liftI di) (liftG js g) (liftT tt) (lift te) vs σ H R := by
  obtain ⟨F, en, G, Q, rl, h, fin⟩ := h
  refine ⟨F, en, G, _, rl, h, fun J H1 G1 ds en1 s1 R1 st ⟨P, p0, step, last⟩ Dd nD => ?_⟩
  refine lc_loop hj st (lcs_new R1 nD) P p0 step fun acc e H2 lc p2 => ?_
  obtain ⟨G2, s2, R2, ok2, l2⟩ := lcs_end lc
  exact fin _ H2 G2 _ e (s1.trans s2) R2 ok2 l2 (last acc e p2)
/-- two clauses -/
def dLc2 (di : DTI) (g : DTG) (tt : DTT) (di1 : DTI) (g1 : DTG) (tt1 : DTT) (te : DTE) (vs vs1 : List Nat) : DTE := fun en Q => di en fun ds en1 => ∃ P : Nat → List PyData → Ev → Prop, P 0 [] (wipeE en1 vs) ∧
  (∀ i d acc e, ds[i]? = some d → P i acc e → g (.v d) e fun e2 => tt e2 fun b e3 => if b = true then di1 e3 fun ds1 e4 => ∃ P1 : Nat → List PyData → Ev → Prop, P1 0 acc (wipeE e4 vs1) ∧
      (∀ j d1 acc1 e5, ds1[j]? = some d1 → P1 j acc1 e5 → g1 (.v d1) e5 fun e6 => tt1 e6 fun b e7 => if b = true then te e7 fun r e8 => asD r fun y => acc1.length < sizeLine ∧ P1 (j + 1) (acc1 ++ [y]) (wipeE e8 vs1) else P1 (j + 1) acc1 (wipeE e7 vs1)) ∧
      ∀ acc1 e9, P1 ds1.length acc1 e9 → P (i + 1) acc1 (wipeE e9 vs)
    else P (i + 1) acc (wipeE e3 vs)) ∧
  ∀ acc e, P ds.length acc e → Q (.own (.lst acc)) e
theorem DStep.add {F : Fr} {J : It} {ds : List PyData} {G : Hp} {a : Addr} {o : HO} (h : DStep (F.add a o) J ds G) : DStep F J ds G :=
  ⟨h.stop, h.go, fun i H G1 x H' hi b s y => by
    obtain ⟨G2, d, S, r⟩ := h.yld i H G1 x H' hi ⟨b.dok, b.sub, b.nd⟩ s y
    exact ⟨G2, d, ⟨S.dok, S.big, S.sub, S.nd, S.part, S.only⟩, r⟩⟩
theorem lift_lc2 {di di1 : DTI} {js js1 : List Nat} {g g1 : DTG} {tt tt1 : DTT} {te : DTE} {vs vs1 : List Nat} {σ : L2.St} {H : Hp} {R : VK} (hj : ∀ i ∈ js, i ∈ vs) (hj1 : ∀ i ∈ js1, i ∈ vs1) (hv : ∀ i ∈ vs1, i ∈ vs) (h : lift (dLc2 di g tt di1 g1 tt1 te vs vs1) σ H R) : tLc2 (liftI di) (liftG js g) (liftT tt) (liftI di1) (liftG js1 g1) (liftT tt1) (lift te) vs vs1 σ H R := by
  obtain ⟨F, en, G, Q, rl, h, fin⟩ := h
  refine ⟨F, en, G, _, rl, h, fun J H1 G1 ds en1 s1 R1 st ⟨P, p0, step, last⟩ Dd nD => ?_⟩
  refine ⟨fun i m H => i + m = ds.length ∧ ∃ e acc, Lcs F G1 σ Dd vs e acc H ∧ P i acc e, ⟨ds.length, Nat.zero_add _, _, _, lcs_new R1 nD, p0⟩, ?_⟩
  rintro i m H2 ⟨em, e2, acc, lc, p2⟩
  cases m with
  | zero =>
    have e : i = ds.length := by omega
    subst e
    obtain ⟨G2, s2, R2, ok2, l2⟩ := lcs_end lc
    exact .inl ⟨st.stop H2 (s2.trans R2.bs.sub), fin _ H2 G2 _ e2 (s1.trans s2) R2 ok2 l2 (last acc e2 p2)⟩
  | succ m =>
    have hi : i < ds.length := by omega
    obtain ⟨G2, xs, s2, R2, e1, dv, n, nk, n0, ap, out⟩ := lc.ex
    refine .inr ⟨st.go i H2 hi (s2.trans R2.bs.sub), fun H' => ∃ e acc, Lcs F G1 σ Dd vs e acc H' ∧ P (i + 1) acc e, fun H' h => ⟨m, Nat.lt_succ_self _, by omega, h⟩, fun x H3 y => ?_⟩
    obtain ⟨G3, d, S, dx, ed⟩ := st.yld i H2 G2 x H3 hi R2.bs s2 y
    have s3 := s2.trans S.part
    have R3 := R2.step S
    have e3 := S.big _ _ e1 nk
    have n3 := S.only _ _ e1 (fun _ => nofun) n
    have Rh := R3.hold e3 n3 nk ap
    have ng : F.G0 Dd = none := by
      cases z : F.G0 Dd with
      | none => rfl
      | some u => rw [R3.st.part _ _ z] at n3; cases n3
    have dv3 := dv.same S.part
    refine ⟨F.add Dd (.lst xs), e2, G3, .v d, _, Rh, dx, (fun _ z => by cases z), step i d acc e2 ed p2, fun σ4 e4 H4 G4 s4 R4 o4 q4 => ?_⟩
    have hw : wipe σ4 vs = wipe σ vs := by
      rw [wipe_eq (σ := wipe σ vs) o4.1 fun j hjv => o4.2 j fun z => hjv (hj j z)]
      exact wipe_eq (wipe_length σ vs) fun j hjv => wipe_out hjv
    refine ⟨hw, _, e4, G4, _, R4, q4, fun b H5 G5 e5 s5 R5 q5 => ?_⟩
    cases b with
    | true =>
      rw [if_pos rfl] at q5 ⊢
      refine ⟨_, e5, G5, _, R5, q5, fun J1 H6 G6 ds1 e6 s6 R6 st1 ⟨P1, p10, step1, last1⟩ => ?_⟩
      have sg := ((s3.trans s4).trans s5).trans s6
      obtain ⟨-, -, l3⟩ := lcs_held (σ := σ4) (G1 := G6) (vs := vs1) R6 R3.d0 (Same.refl G6) (((dv3.same s4).same s5).same s6) nk n0 ng rfl
      refine lc_loop hj1 st1.add l3 P1 p10 step1 fun acc1 e9 H9 lc9 p9 => ⟨_, acc1, ?_, last1 acc1 e9 p9⟩
      obtain ⟨G9, ys, s9, R9, f1, f2, f3, f4, f5, f6, f7⟩ := lc9.ex
      have hw1 : wipe (wipe σ4 vs1) vs = wipe σ vs := by
        rw [← hw]
        exact wipe_eq (wipe_length σ4 vs1) fun j hjv => wipe_out fun z => hjv (hv j z)
      have Rw := R9.wiped (vs := vs) (σ' := wipe (wipe σ4 vs1) vs) (wipe_length _ vs) fun i hi => wipe_out hi
      have apw := f6.wipe (vs := vs) (σ' := wipe (wipe σ4 vs1) vs) fun i hi => wipe_out hi
      rw [hw1] at Rw apw
      exact ⟨G9, ys, sg.trans s9, Rw, f1, f2, f3, f4, f5, apw, fun i r hi e => wipeE_in hi e⟩
    | false =>
      rw [if_neg Bool.false_ne_true] at q5 ⊢
      obtain ⟨-, -, h3⟩ := lcs_held (G1 := G1) (vs := vs) R5 R3.d0 ((s3.trans s4).trans s5) ((dv3.same s4).same s5) nk n0 ng hw
      exact ⟨_, _, h3, q5⟩
/-! ### as expressions, as what is set -/
def dYes : DTT := fun en Q => Q true en
def DTs (X : Cx) (ifs : List Expr) (t : DTT) : Prop := PTs X ifs (liftT t)
section
variable {X : Cx}
theorem dtsNil : DTs X [] dYes := ⟨fun pins s σ H Q I ⟨F, en, G, P, rl, q, fin⟩ => pts_nil.run pins s σ H Q I (fin true H G en (Same.refl G) rl q)⟩
theorem dtsOne {c : Expr} {t : DTT} (h : DT X c t) : DTs X [c] t := pts_one h
variable {elt tg iter tg1 iter1 : Expr} {ifs ifs1 : List Expr} {scope : Scope} {own : List (Str × Nat)} {vs1 : List Nat} {pos spos : Pos} {di di1 : DTI} {g g1 : DTG} {js js1 : List Nat} {tt tt1 : DTT} {te : DTE}
theorem dLcE (hc : X.calm = true) (hN : X.N.Nodup) (hi : DI X tg iter di) (ok : BlkOk X.N X.env.scope scope own) (hj : ∀ i ∈ js, i ∈ own.map (·.2))
    (hg : ∀ (s : Shared) (H : Hp) (C : Addr) (cl : List (Str × Addr)) (fp : List Addr), DG (X.blk s H scope (compEnvC scope cl C X.env) fp) tg js g) (ht : ∀ (s : Shared) (H : Hp) (C : Addr) (cl : List (Str × Addr)) (fp : List Addr), DTs (X.blk s H scope (compEnvC scope cl C X.env) fp) ifs tt)
    (he : ∀ (s : Shared) (H : Hp) (C : Addr) (cl : List (Str × Addr)) (fp : List Addr), DE (X.blk s H scope (compEnvC scope cl C X.env) fp) elt te) (hs : ∀ x, foldedSetIterable iter X.env x = pure x := by intro _; rfl) :
    DE X (.ListComp elt [⟨tg, iter, ifs, 0⟩] scope pos) (dLc di g tt te (own.map (·.2))) := toE (pe_lc hc hN hi ok hg ht he hs) fun _ _ _ => lift_lc hj
theorem dsSetLc {i : Nat} {y : Str} {py : Pos} (hc : X.calm = true) (hN : X.N.Nodup) (hy : X.N[i]? = some y) (hyl : X.env.scope.names.lookup y = some .local)
    (hsw : swapsWith (.ListComp elt [⟨tg, iter, ifs, 0⟩] scope pos) (some (.Name y py)) spos.line X.env = pure true) (hi : DI X tg iter di) (ok : BlkOk X.N X.env.scope scope own) (hj : ∀ i ∈ js, i ∈ own.map (·.2))
    (hg : ∀ (s : Shared) (H : Hp) (C : Addr) (cl : List (Str × Addr)) (fp : List Addr), DG (X.blk s H scope (compEnvC scope cl C X.env) fp) tg js g) (ht : ∀ (s : Shared) (H : Hp) (C : Addr) (cl : List (Str × Addr)) (fp : List Addr), DTs (X.blk s H scope (compEnvC scope cl C X.env) fp) ifs tt)
    (he : ∀ (s : Shared) (H : Hp) (C : Addr) (cl : List (Str × Addr)) (fp : List Addr), DE (X.blk s H scope (compEnvC scope cl C X.env) fp) elt te) (hs : ∀ x, foldedSetIterable iter X.env x = pure x := by intro _; rfl) :
    DS X (.Assign [.Name y py] (.ListComp elt [⟨tg, iter, ifs, 0⟩] scope pos) spos) (dAsg (dLc di g tt te (own.map (·.2))) (dgName i)) :=
  toS (ps_setLc hc hN hy hyl hsw hi ok hg ht he hs) fun D σ H h => lift_asg (js := [i]) (fun _ => lift_lc hj) (fun _ _ _ x => lift_name x) h
theorem dLc2E (hc : X.calm = true) (hN : X.N.Nodup) (hi : DI X tg iter di) (ok : BlkOk X.N X.env.scope scope own) (hv : ∀ i ∈ vs1, i ∈ own.map (·.2)) (hj : ∀ i ∈ js, i ∈ own.map (·.2)) (hj1 : ∀ i ∈ js1, i ∈ vs1)
    (hg : ∀ (s : Shared) (H : Hp) (C : Addr) (cl : List (Str × Addr)) (fp : List Addr), DG (X.blk s H scope (compEnvC scope cl C X.env) fp) tg js g) (ht : ∀ (s : Shared) (H : Hp) (C : Addr) (cl : List (Str × Addr)) (fp : List Addr), DTs (X.blk s H scope (compEnvC scope cl C X.env) fp) ifs tt)
    (hi1 : ∀ (s : Shared) (H : Hp) (C : Addr) (cl : List (Str × Addr)) (fp : List Addr), DI (X.blk s H scope (compEnvC scope cl C X.env) fp) tg1 iter1 di1)
    (hg1 : ∀ (s : Shared) (H : Hp) (C : Addr) (cl : List (Str × Addr)) (fp : List Addr), DG (X.blk s H scope (compEnvC scope cl C X.env) fp) tg1 js1 g1) (ht1 : ∀ (s : Shared) (H : Hp) (C : Addr) (cl : List (Str × Addr)) (fp : List Addr), DTs (X.blk s H scope (compEnvC scope cl C X.env) fp) ifs1 tt1)
    (he : ∀ (s : Shared) (H : Hp) (C : Addr) (cl : List (Str × Addr)) (fp : List Addr), DE (X.blk s H scope (compEnvC scope cl C X.env) fp) elt te) (hs : ∀ x, foldedSetIterable iter X.env x = pure x := by intro _; rfl) (hs1 : ∀ env x, foldedSetIterable iter1 env x = pure x := by intro _ _; rfl) :
    DE X (.ListComp elt [⟨tg, iter, ifs, 0⟩, ⟨tg1, iter1, ifs1, 0⟩] scope pos) (dLc2 di g tt di1 g1 tt1 te (own.map (·.2)) vs1) := toE (pe_lc2 hc hN hi ok hv hg ht hi1 hg1 ht1 he hs hs1) fun _ _ _ => lift_lc2 hj hj1 hv
theorem dsSetLc2 {i : Nat} {y : Str} {py : Pos} (hc : X.calm = true) (hN : X.N.Nodup) (hy : X.N[i]? = some y) (hyl : X.env.scope.names.lookup y = some .local)
    (hsw : swapsWith (.ListComp elt [⟨tg, iter, ifs, 0⟩, ⟨tg1, iter1, ifs1, 0⟩] scope pos) (some (.Name y py)) spos.line X.env = pure true) (hi : DI X tg iter di) (ok : BlkOk X.N X.env.scope scope own) (hv : ∀ i ∈ vs1, i ∈ own.map (·.2)) (hj : ∀ i ∈ js, i ∈ own.map (·.2)) (hj1 : ∀ i ∈ js1, i ∈ vs1)
    (hg : ∀ (s : Shared) (H : Hp) (C : Addr) (cl : List (Str × Addr)) (fp : List Addr), DG (X.blk s H scope (compEnvC scope cl C X.env) fp) tg js g) (ht : ∀ (s : Shared) (H : Hp) (C : Addr) (cl : List (Str × Addr)) (fp : List Addr), DTs (X.blk s H scope (compEnvC scope cl C X.env) fp) ifs tt)
    (hi1 : ∀ (s : Shared) (H : Hp) (C : Addr) (cl : List (Str × Addr)) (fp : List Addr), DI (X.blk s H scope (compEnvC scope cl C X.env) fp) tg1 iter1 di1)
    (hg1 : ∀ (s : Shared) (H : Hp) (C : Addr) (cl : List (Str × Addr)) (fp : List Addr), DG (X.blk s H scope (compEnvC scope cl C X.env) fp) tg1 js1 g1) (ht1 : ∀ (s : Shared) (H : Hp) (C : Addr) (cl : List (Str × Addr)) (fp : List Addr), DTs (X.blk s H scope (compEnvC scope cl C X.env) fp) ifs1 tt1)
    (he : ∀ (s : Shared) (H : Hp) (C : Addr) (cl : List (Str × Addr)) (fp : List Addr), DE (X.blk s H scope (compEnvC scope cl C X.env) fp) elt te) (hs : ∀ x, foldedSetIterable iter X.env x = pure x := by intro _; rfl) (hs1 : ∀ env x, foldedSetIterable iter1 env x = pure x := by intro _ _; rfl) :
    DS X (.Assign [.Name y py] (.ListComp elt [⟨tg, iter, ifs, 0⟩, ⟨tg1, iter1, ifs1, 0⟩] scope pos) spos) (dAsg (dLc2 di g tt di1 g1 tt1 te (own.map (·.2)) vs1) (dgName i)) :=
  toS (ps_setLc2 hc hN hy hyl hsw hi ok hv hg ht hi1 hg1 ht1 he hs hs1) fun D σ H h => lift_asg (js := [i]) (fun _ => lift_lc2 hj hj1 hv) (fun _ _ _ x => lift_name x) h
end
end Vf
set_option backward.eqns.nonrecursive true
namespace Vf
open PySem L2 PyProof.Rows PySem.Spec
/-! ## readings by values: the operations -/
mutual
theorem dvDp {K : PySem.W.Frag} {H : Hp} : ∀ {v : V} {d : PyData}, Dv H v d → PyData.canLay0 d = true → Dp K H v d
  | _, _, .non, _ => .non
  | _, _, .bl b, _ => .bl b
  | _, _, .int i, _ => .int i
  | _, _, .str x, _ => .str x
  | _, _, .lst e h, l => .lst (.of e) (dvDpAll h (by simpa only [PyData.canLay0] using l))
  | _, _, .tup e h, l => .tup (.of e) (dvDpAll h (by simpa only [PyData.canLay0] using l))
  | _, _, .dic e h, l => absurd (show false = true by simpa only [PyData.canLay0] using l) Bool.false_ne_true
theorem dvDpAll {K : PySem.W.Frag} {H : Hp} : ∀ {vs : List V} {ds : List PyData}, DvAll H vs ds → PyData.canLayAll0 ds = true → DpAll K H vs ds
  | _, _, .nil, _ => .nil
  | _, _, .cons h t, l => by
    simp only [PyData.canLayAll0, Bool.and_eq_true] at l
    exact .cons (dvDp h l.1) (dvDpAll t l.2)
end
theorem dvDpS {K : PySem.W.Frag} {H : Hp} {v : V} {d : PyData} (h : Dv H v d) (s : SeqAt.shaped d = true) : Dp K H v d := dvDp h (SeqAt.canLay_of_shaped s)
/-- operations that tell a number, a text, a truth -/
abbrev S1 := PyData → (PyData → Prop) → Prop
abbrev S2 := PyData → PyData → (PyData → Prop) → Prop
def liftP1 (f : S1) : V → Hp → VK → Prop := fun x H R => ∃ (G : Hp) (dx : PyData) (P : PyData → Prop), Same G H ∧ Dv G x dx ∧ f dx P ∧ ∀ z d, P d → (∀ G', Dv G' z d) → R z H
def liftP2 (f : S2) : R2 := fun x y H R => ∃ (G : Hp) (dx dy : PyData) (P : PyData → Prop), Same G H ∧ Dv G x dx ∧ Dv G y dy ∧ f dx dy P ∧ ∀ z d, P d → (∀ G', Dv G' z d) → R z H
def liftPC (f : S1) : List V → Hp → VK → Prop := fun xs H R => ∃ (G : Hp) (x : V) (d : PyData) (P : PyData → Prop), xs = [x] ∧ Same G H ∧ Dv G x d ∧ f d P ∧ ∀ z d, P d → (∀ G', Dv G' z d) → R z H
def s1 (f : S1) : V1 := fun d Q => f d fun z => Q (.v z)
def s2 (f : S2) : V2 := fun d e Q => f d e fun z => Q (.v z)
def sC (f : S1) : VL
  | [d], Q => f d fun z => Q (.v z)
  | _, _ => False
section
variable {X : Cx}
theorem up1 {op : Value → Sem Value} {f : S1} (h : UnR X op (liftP1 f)) : UnR X op (liftR1 (s1 f)) := fun pins s σ H x v R I rx ⟨F, G, dx, Q, B, v1, q, fin⟩ =>
  h pins s σ H x v R I rx ⟨G, dx, _, B.sub, v1, q, fun z d p k => fin z H G (.v d) B.refl (k G) p⟩
theorem up2 {op : Value → Value → Sem Value} {f : S2} (h : OpR X op (liftP2 f)) : OpR X op (liftR2 (s2 f)) := fun pins s σ H x y v u R I rx ry ⟨F, G, dx, dy, Q, B, v1, v2, q, fin⟩ =>
  h pins s σ H x y v u R I rx ry ⟨G, dx, dy, _, B.sub, v1, v2, q, fun z d p k => fin z H G (.v d) B.refl (k G) p⟩
theorem upC {f : Value} {g : S1} (h : CallR X f (liftPC g)) : CallR X f (liftC (sC g)) := fun pins s σ H xs us R I rx ⟨F, G, ds, Q, B, dv, q, fin⟩ => by
  unfold sC at q
  split at q
  · next d =>
    cases dv with
    | cons h1 h2 =>
      cases h2
      exact h pins s σ H _ us R I rx ⟨G, _, d, _, rfl, B.sub, h1, q, fun z d p k => fin z H G (.v d) B.refl (k G) p⟩
  · exact q.elim
/-! ### whole numbers -/
def sInt (C : Int → Int → Prop) (g : Int → Int → Int) : S2
  | .int i, .int j, P => C i j ∧ P (.int (g i j))
  | _, _, _ => False
def sIntB (g : Int → Int → Bool) : S2
  | .int i, .int j, P => P (.bool (g i j))
  | _, _, _ => False
def yesC : Int → Int → Prop := fun _ _ => True
theorem ofI {op : Value → Value → Sem Value} {C : Int → Int → Prop} {g : Int → Int → Int} (h : OpR X op (rI C fun i j => .int (g i j))) : OpR X op (liftP2 (sInt C g)) := fun pins s σ H x y v u R I rx ry ⟨G, dx, dy, P, sm, v1, v2, q, fin⟩ => by
  unfold sInt at q
  split at q
  · cases v1
    cases v2
    exact h pins s σ H _ _ v u R I rx ry ⟨_, _, rfl, rfl, q.1, fin _ _ q.2 fun _ => .int _⟩
  · exact q.elim
theorem ofI0 {op : Value → Value → Sem Value} {g : Int → Int → Int} (h : OpR X op (rI0 fun i j => .int (g i j))) : OpR X op (liftP2 (sInt yesC g)) := fun pins s σ H x y v u R I rx ry ⟨G, dx, dy, P, sm, v1, v2, q, fin⟩ => by
  unfold sInt at q
  split at q
  · cases v1
    cases v2
    exact h pins s σ H _ _ v u R I rx ry ⟨_, _, rfl, rfl, fin _ _ q.2 fun _ => .int _⟩
  · exact q.elim
theorem ofIB {op : Value → Value → Sem Value} {g : Int → Int → Bool} (h : OpR X op (rI0 fun i j => .bl (g i j))) : OpR X op (liftP2 (sIntB g)) := fun pins s σ H x y v u R I rx ry ⟨G, dx, dy, P, sm, v1, v2, q, fin⟩ => by
  unfold sIntB at q
  split at q
  · cases v1
    cases v2
    exact h pins s σ H _ _ v u R I rx ry ⟨_, _, rfl, rfl, fin _ _ q fun _ => .bl _⟩
  · exact q.elim
def vSub : V2 := s2 (sInt yesC fun i j => i - j)
def vFdiv : V2 := s2 (sInt CDiv fun i j => i / j)
def vMod : V2 := s2 (sInt (fun _ j => 0 < j) fun i j => i % j)
def vPow : V2 := s2 (sInt CPow fun i j => i ^ j.toNat)
def vShl : V2 := s2 (sInt CPow fun i j => i * 2 ^ j.toNat)
def vShr : V2 := s2 (sInt (fun _ j => 0 ≤ j) fun i j => i / 2 ^ j.toNat)
def vAnd : V2 := s2 (sInt yesC fun i j => Builtin.bitAnd i j)
def vOr : V2 := s2 (sInt yesC fun i j => Builtin.bitOr i j)
def vXor : V2 := s2 (sInt yesC fun i j => Builtin.bitXor i j)
theorem oSub : OpR X (binaryOp .Sub) (liftR2 vSub) := up2 (ofI0 op_sub)
theorem oFdiv : OpR X (binaryOp .FloorDiv) (liftR2 vFdiv) := up2 (ofI op_fdiv)
theorem oMod : OpR X (binaryOp .Mod) (liftR2 vMod) := up2 (ofI op_mod)
theorem oPow : OpR X (binaryOp .Pow) (liftR2 vPow) := up2 (ofI op_pow)
theorem oShl : OpR X (binaryOp .LShift) (liftR2 vShl) := up2 (ofI op_shl)
theorem oShr : OpR X (binaryOp .RShift) (liftR2 vShr) := up2 (ofI op_shr)
theorem oAnd : OpR X (binaryOp .BitAnd) (liftR2 vAnd) := up2 (ofI0 op_and)
theorem oOr : OpR X (binaryOp .BitOr) (liftR2 vOr) := up2 (ofI0 op_or)
theorem oXor : OpR X (binaryOp .BitXor) (liftR2 vXor) := up2 (ofI0 op_xor)
def sLt : S2 := sIntB fun i j => decide (i < j)
def sLe : S2 := sIntB fun i j => decide (i ≤ j)
def sGt : S2 := sIntB fun i j => decide (j < i)
def sGe : S2 := sIntB fun i j => decide (j ≤ i)
theorem pLt : OpR X (compareOp .Lt) (liftP2 sLt) := ofIB op_lt
theorem pLe : OpR X (compareOp .LtE) (liftP2 sLe) := ofIB op_le
theorem pGt : OpR X (compareOp .Gt) (liftP2 sGt) := ofIB op_gt
theorem pGe : OpR X (compareOp .GtE) (liftP2 sGe) := ofIB op_ge
theorem oLt : OpR X (compareOp .Lt) (liftR2 (s2 sLt)) := up2 pLt
theorem oLe : OpR X (compareOp .LtE) (liftR2 (s2 sLe)) := up2 pLe
theorem oGt : OpR X (compareOp .Gt) (liftR2 (s2 sGt)) := up2 pGt
theorem oGe : OpR X (compareOp .GtE) (liftR2 (s2 sGe)) := up2 pGe
def sI1 (g : Int → Int) : S1
  | .int i, P => P (.int (g i))
  | _, _ => False
theorem ofU {op : Value → Sem Value} {g : Int → Int} (h : UnR X op (rU fun i => .int (g i))) : UnR X op (liftR1 (s1 (sI1 g))) := up1 fun pins s σ H x v R I rx ⟨G, dx, P, sm, v1, q, fin⟩ => by
  unfold sI1 at q
  split at q
  · cases v1
    exact h pins s σ H _ v R I rx ⟨_, rfl, fin _ _ q fun _ => .int _⟩
  · exact q.elim
def vNeg : V1 := s1 (sI1 fun i => -i)
def vInv : V1 := s1 (sI1 fun i => Builtin.bitNot i)
theorem oNeg : UnR X (unaryOp .USub) (liftR1 vNeg) := ofU un_neg
theorem oInv : UnR X (unaryOp .Invert) (liftR1 vInv) := ofU un_inv
/-! ### + and * -/
def vAdd : V2
  | .int i, .int j, Q => Q (.v (.int (i + j)))
  | .str a, .str b, Q => a.length + b.length ≤ sizeLine ∧ Q (.v (.str (a ++ b)))
  | .list a, .list b, Q => a.length + b.length ≤ sizeLine ∧ Q (.own (.lst (a ++ b)))
  | .tuple a, .tuple b, Q => a.length + b.length ≤ sizeLine ∧ Q (.v (.tuple (a ++ b)))
  | _, _, _ => False
theorem opOr {op : Value → Value → Sem Value} {r r' : R2} (h : OpR X op r) (h' : OpR X op r') : OpR X op (fun x y H Q => r x y H Q ∨ r' x y H Q) := h.or h'
theorem oAdd : OpR X (binaryOp .Add) (liftR2 vAdd) := fun pins s σ H x y v u R I rx ry ⟨F, G, dx, dy, Q, B, v1, v2, q, fin⟩ => by
  unfold vAdd at q
  split at q
  · cases v1
    cases v2
    exact opAdd pins s σ H _ _ v u R I rx ry (fin.v B (.int _) q)
  · cases v1
    cases v2
    exact opAdd pins s σ H _ _ v u R I rx ry ⟨q.1, fin.v B (.str _) q.2⟩
  · cases v1 with
    | lst e1 a1 =>
      cases v2 with
      | lst e2 a2 =>
        exact opAdd pins s σ H _ _ v u R I rx ry (.inl ⟨_, _, B.sub _ _ e1, B.sub _ _ e2, by rw [a1.len, a2.len]; exact q.1, fun p hp => fin.lst B (same_upd hp) hp upd_same (dvApp a1 a2) q.2⟩)
  · cases v1 with
    | tup e1 a1 =>
      cases v2 with
      | tup e2 a2 =>
        rename_i b c _ _ _
        refine opAdd pins s σ H _ _ v u R I rx ry (.inr ⟨_, _, _, _, rfl, rfl, .of (B.sub _ _ e1), .of (B.sub _ _ e2), by rw [a1.len, a2.len]; exact q.1, fun e => ?_, fun _ e => ?_, fun _ _ p hp => fin.tup B (same_upd hp) hp upd_same (dvApp a1 a2) q.2⟩)
        · subst e
          cases a1
          exact fin.v B (.tup e2 a2) q.2
        · subst e
          cases a2
          have h := q.2
          rw [List.append_nil] at h
          exact fin.v B (.tup e1 a1) h
  · exact q.elim
def vMul : V2
  | .int i, .int j, Q => CMul i j ∧ Q (.v (.int (i * j)))
  | .str a, .int n, Q => (2 ≤ n ∧ n ≤ 1000 ∧ a.length ≠ 0 ∧ a.length ≤ 1000) ∧ Q (.v (.str (repS a n.toNat)))
  | .list a, .int k, Q => (-(2 ^ 63) ≤ k ∧ k < 2 ^ 63 ∧ a.length * k.toNat ≤ sizeLine) ∧ Q (.own (.lst (List.replicate k.toNat a).flatten))
  | .tuple a, .int k, Q => (a ≠ [] ∧ 0 ≤ k ∧ k ≤ 1000 ∧ a.length ≤ 1000) ∧ Q (.v (.tuple (List.replicate k.toNat a).flatten))
  | _, _, _ => False
theorem dvRep {H : Hp} {xs : List V} {ds : List PyData} (h : DvAll H xs ds) : ∀ n : Nat, DvAll H (List.replicate n xs).flatten (List.replicate n ds).flatten
  | 0 => .nil
  | n + 1 => by
    rw [List.replicate_succ, List.replicate_succ, List.flatten_cons, List.flatten_cons]
    exact dvApp h (dvRep h n)
theorem oMul : OpR X (binaryOp .Mult) (liftR2 vMul) := fun pins s σ H x y v u R I rx ry ⟨F, G, dx, dy, Q, B, v1, v2, q, fin⟩ => by
  unfold vMul at q
  split at q
  · cases v1
    cases v2
    exact opMul pins s σ H _ _ v u R I rx ry ⟨q.1, fin.v B (.int _) q.2⟩
  · cases v1
    cases v2
    exact opMul pins s σ H _ _ v u R I rx ry ⟨q.1.1, q.1.2.1, q.1.2.2.1, q.1.2.2.2, fin.v B (.str _) q.2⟩
  · cases v1 with
    | lst e1 a1 =>
      cases v2
      exact opMul pins s σ H _ _ v u R I rx ry ⟨_, B.sub _ _ e1, q.1.1, q.1.2.1, by rw [a1.len]; exact q.1.2.2, fun p hp => fin.lst B (same_upd hp) hp upd_same (dvRep a1 _) q.2⟩
  · rename_i a k
    cases v1 with
    | @tup _ xs _ e1 a1 =>
      cases v2
      have ne : xs ≠ [] := fun z => q.1.1 (by subst z; cases a1; rfl)
      obtain ⟨q1, q2⟩ := q
      by_cases k2 : 2 ≤ k
      · exact op_repT pins s σ H _ _ v u R I rx ry ⟨_, _, _, rfl, rfl, .of (B.sub _ _ e1), ne, k2, q1.2.2.1, by rw [a1.len]; exact q1.2.2.2, fun p hp => fin.tup B (same_upd hp) hp upd_same (dvRep a1 _) q2⟩
      · have k0 := q1.2.1
        by_cases e0 : k = 0
        · subst e0
          exact op_repS pins s σ H _ _ v u R I rx ry ⟨_, _, _, rfl, rfl, .of (B.sub _ _ e1), ne, .inr ⟨Int.le_refl _, by decide, fun p hp => fin.tup B (same_upd hp) hp upd_same .nil q2⟩⟩
        · obtain rfl : k = 1 := by omega
          have e9 : (List.replicate (1 : Int).toNat a).flatten = a := by simp
          rw [e9] at q2
          exact op_repS pins s σ H _ _ v u R I rx ry ⟨_, _, _, rfl, rfl, .of (B.sub _ _ e1), ne, .inl ⟨rfl, fin.v B (.tup e1 a1) q2⟩⟩
  · exact q.elim
/-! ### ==, in, is -/
def eqD (neg : Bool) : S2
  | .int i, .int j, P => P (.bool (neg ^^ decide (i = j)))
  | .str a, .str b, P => P (.bool (neg ^^ decide (a = b)))
  | .bool a, .bool b, P => P (.bool (neg ^^ decide (a = b)))
  | d, e, P => SeqAt.shaped d = true ∧ SeqAt.shaped e = true ∧ P (.bool (neg ^^ PyData.eqv d e))
def sEq : S2 := eqD false
def sNe : S2 := eqD true
theorem pEqG (hu : X.A.units + 64 < cLine) {op : Value → Value → Sem Value} {neg : Bool} (h1 : OpR X op (fun x y H Q => scal x y = true ∧ Q (.bl (neg ^^ decide (x = y))) H)) (h2 : OpR X op (fun x y H Q => ∃ d e, Dp X.K H x d ∧ Dp X.K H y e ∧ SeqAt.shaped d = true ∧ SeqAt.shaped e = true ∧ Q (.bl (neg ^^ PyData.eqv d e)) H)) : OpR X op (liftP2 (eqD neg)) := fun pins s σ H x y v u R I rx ry ⟨G, dx, dy, P, sm, v1, v2, q, fin⟩ => by
  unfold eqD at q
  split at q
  · cases v1
    cases v2
    exact h1 pins s σ H _ _ v u R I rx ry ⟨rfl, fin _ _ q fun _ => by simp only [V.int.injEq]; exact .bl _⟩
  · cases v1
    cases v2
    exact h1 pins s σ H _ _ v u R I rx ry ⟨rfl, fin _ _ q fun _ => by simp only [V.str.injEq]; exact .bl _⟩
  · cases v1
    cases v2
    exact h1 pins s σ H _ _ v u R I rx ry ⟨rfl, fin _ _ q fun _ => by simp only [V.bl.injEq]; exact .bl _⟩
  · exact h2 pins s σ H _ _ v u R I rx ry ⟨_, _, dvDpS (v1.same sm) q.1, dvDpS (v2.same sm) q.2.1, q.1, q.2.1, fin _ _ q.2.2 fun _ => .bl _⟩
theorem pEq (hu : X.A.units + 64 < cLine) : OpR X (compareOp .Eq) (liftP2 sEq) := pEqG hu (fun pins s σ H x y v u Q I rx ry h => op_eq pins s σ H x y v u Q I rx ry ⟨h.1, by simpa using h.2⟩)
  fun pins s σ H x y v u Q I rx ry ⟨d, e, a, b, c, f, q⟩ => op_eqD hu pins s σ H x y v u Q I rx ry ⟨d, e, a, b, c, f, by simpa using q⟩
theorem pNe (hu : X.A.units + 64 < cLine) : OpR X (compareOp .NotEq) (liftP2 sNe) := pEqG hu (fun pins s σ H x y v u Q I rx ry h => op_ne pins s σ H x y v u Q I rx ry ⟨h.1, by simpa using h.2⟩)
  fun pins s σ H x y v u Q I rx ry ⟨d, e, a, b, c, f, q⟩ => op_neD hu pins s σ H x y v u Q I rx ry ⟨d, e, a, b, c, f, by simpa using q⟩
theorem oEq (hu : X.A.units + 64 < cLine) : OpR X (compareOp .Eq) (liftR2 (s2 sEq)) := up2 (pEq hu)
theorem oNe (hu : X.A.units + 64 < cLine) : OpR X (compareOp .NotEq) (liftR2 (s2 sNe)) := up2 (pNe hu)
/-- flat data: none, a truth, a number, a text -/
def flatD : PyData → Bool
  | .none | .bool _ | .int _ | .str _ => true
  | _ => false
/-- is d among them -/
def inD (d : PyData) (ds : List PyData) : Bool := ds.any fun z => PyData.eqv z d
theorem flat_of {H : Hp} {x : V} {d : PyData} (h : Dv H x d) (f : flatD d = true) : flatV x = true := by
  cases h <;> first | rfl | cases f
theorem eqv_of {H : Hp} {x y : V} {d e : PyData} (h : Dv H x d) (k : Dv H y e) (f : flatD d = true) (g : flatD e = true) : eqV x y = PyData.eqv d e := by
  cases h <;> cases k <;> first | rfl | cases f | cases g | simp only [eqV, PyData.eqv]
theorem inD_of {H : Hp} {x : V} {d : PyData} (h : Dv H x d) (f : flatD d = true) : ∀ {xs : List V} {ds : List PyData}, DvAll H xs ds → ds.all flatD = true → xs.all flatV = true ∧ inV x xs = inD d ds
  | _, _, .nil, _ => ⟨rfl, rfl⟩
  | _, _, .cons a t, g => by
    simp only [List.all_cons, Bool.and_eq_true] at g
    obtain ⟨h1, h2⟩ := inD_of h f t g.2
    unfold inV inD at h2 ⊢
    simp only [List.all_cons, List.any_cons, Bool.and_eq_true]
    exact ⟨⟨flat_of a g.1, h1⟩, by rw [eqv_of a h g.1 f, h2]⟩
def inSD (neg : Bool) : S2
  | .str c, .str z, P => ∃ a, c = ⟨#[a]⟩ ∧ P (.bool (neg ^^ decide (a ∈ z.cps.toList)))
  | d, .tuple ds, P => (flatD d = true ∧ ds.all flatD = true) ∧ P (.bool (neg ^^ inD d ds))
  | d, .list ds, P => ((flatD d = true ∧ ds.all flatD = true) ∨ (SeqAt.shaped d = true ∧ SeqAt.shaped (.list ds) = true)) ∧ P (.bool (neg ^^ inD d ds))
  | _, _, _ => False
def sIn : S2 := inSD false
def sNotIn : S2 := inSD true
theorem pInG {op : Value → Value → Sem Value} {neg : Bool} (h1 : OpR X op (rInA X.K neg)) (h2 : OpR X op (fun x y H Q => ∃ d ds, Dp X.K H x d ∧ Dp X.K H y (.list ds) ∧ SeqAt.shaped d = true ∧ SeqAt.shaped (.list ds) = true ∧ Q (.bl (neg ^^ inD d ds)) H)) : OpR X op (liftP2 (inSD neg)) := fun pins s σ H x y v u R I rx ry ⟨G, dx, dy, P, sm, v1, v2, q, fin⟩ => by
  have sq : ∀ {p : Addr} {xs : List V}, rInA X.K neg x (.ref p) H R = ∃ xs, (SqL X.K H p xs ∨ SqT X.K H p xs) ∧ flatV x = true ∧ xs.all flatV = true ∧ R (.bl (neg ^^ inV x xs)) H := fun {p xs} => by
    cases x <;> rfl
  unfold inSD at q
  split at q
  · cases v1
    cases v2
    obtain ⟨a, ea, q⟩ := q
    exact h1 pins s σ H _ _ v u R I rx ry ⟨a, ea, fin _ _ q fun _ => .bl _⟩
  · cases v2 with
    | @tup a xs _ e t =>
      obtain ⟨f1, f2⟩ := inD_of v1 q.1.1 t q.1.2
      refine h1 pins s σ H _ _ v u R I rx ry ?_
      rw [sq (xs := xs)]
      exact ⟨xs, .inr (.of (sm _ _ e)), flat_of v1 q.1.1, f1, by rw [f2]; exact fin _ _ q.2 fun _ => .bl _⟩
  · rcases q with ⟨q | q, p⟩
    · cases v2 with
      | @lst a xs _ e t =>
        obtain ⟨f1, f2⟩ := inD_of v1 q.1 t q.2
        refine h1 pins s σ H _ _ v u R I rx ry ?_
        rw [sq (xs := xs)]
        exact ⟨xs, .inl (.of (sm _ _ e)), flat_of v1 q.1, f1, by rw [f2]; exact fin _ _ p fun _ => .bl _⟩
    · exact h2 pins s σ H _ _ v u R I rx ry ⟨_, _, dvDpS (v1.same sm) q.1, dvDpS (v2.same sm) q.2, q.1, q.2, fin _ _ p fun _ => .bl _⟩
  · exact q.elim
theorem pIn (hu : X.A.units + 65 < cLine) : OpR X (compareOp .In) (liftP2 sIn) := pInG opIn fun pins s σ H x y v u Q I rx ry ⟨d, ds, a, b, c, f, q⟩ => op_inD hu pins s σ H x y v u Q I rx ry ⟨d, ds, a, b, c, f, by simpa [inD] using q⟩
theorem pNotIn (hu : X.A.units + 65 < cLine) : OpR X (compareOp .NotIn) (liftP2 sNotIn) := pInG opNotIn fun pins s σ H x y v u Q I rx ry ⟨d, ds, a, b, c, f, q⟩ => op_notInD hu pins s σ H x y v u Q I rx ry ⟨d, ds, a, b, c, f, by simpa [inD] using q⟩
theorem oIn (hu : X.A.units + 65 < cLine) : OpR X (compareOp .In) (liftR2 (s2 sIn)) := up2 (pIn hu)
theorem oNotIn (hu : X.A.units + 65 < cLine) : OpR X (compareOp .NotIn) (liftR2 (s2 sNotIn)) := up2 (pNotIn hu)
def noneD : PyData → Bool
  | .none => true
  | _ => false
def isD (neg : Bool) : S2
  | .bool a, .bool b, P => P (.bool (neg ^^ decide (a = b)))
  | d, .none, P => P (.bool (neg ^^ noneD d))
  | _, _, _ => False
theorem none_of {G : Hp} {x : V} {d : PyData} (h : Dv G x d) : decide (x = .non) = noneD d := by
  cases h <;> rfl
theorem pIsNot : OpR X (compareOp .IsNot) (liftP2 (isD true)) := fun pins s σ H x y v u R I rx ry ⟨G, dx, dy, P, sm, v1, v2, q, fin⟩ => by
  unfold isD at q
  split at q
  · cases v1
    cases v2
    exact op_isnot_bl pins s σ H _ _ v u R I rx ry ⟨_, _, rfl, rfl, fin _ _ q fun _ => by rw [Bool.true_xor]; exact .bl _⟩
  · cases v2
    refine op_notN pins s σ H _ _ v u R I rx ry ⟨rfl, fin _ _ q fun _ => ?_⟩
    rw [none_of v1, Bool.true_xor]
    exact .bl _
  · exact q.elim
theorem oIsNot : OpR X (compareOp .IsNot) (liftR2 (s2 (isD true))) := up2 pIsNot
/-! ### indices, cuts -/
def vIx : V2
  | .list ds, .int j, Q => ∃ z, atI ds j = some z ∧ Q (.v z)
  | .tuple ds, .int j, Q => ∃ z, atI ds j = some z ∧ Q (.v z)
  | .str y, .int j, Q => y.length ≤ sizeLine ∧ ∃ c, atI y.cps.toList j = some c ∧ Q (.v (.str ⟨#[c]⟩))
  | _, _, _ => False
theorem dvAtI {H : Hp} {xs : List V} {ds : List PyData} {j : Int} {z : PyData} (h : DvAll H xs ds) (e : atI ds j = some z) : ∃ x, atI xs j = some x ∧ Dv H x z := by
  unfold atI at e ⊢
  rw [h.len]
  cases hk : ixN ds.length j with
  | none => rw [hk] at e; cases e
  | some k =>
    rw [hk] at e
    exact dvOf h e
theorem oIx : IxR X (liftR2 vIx) := fun value slice pins s σ H x y v u R I rx ry ⟨F, G, dx, dy, Q, B, v1, v2, q, fin⟩ hs => by
  refine ix_seq value slice pins s σ H x y v u R I rx ry ?_ hs
  unfold vIx at q
  split at q
  · obtain ⟨z, e, q⟩ := q
    cases v1 with
    | lst e1 a1 =>
      cases v2
      obtain ⟨w, e2, dw⟩ := dvAtI a1 e
      exact .inl ⟨_, _, _, w, rfl, rfl, .of (B.sub _ _ e1), e2, fin.v B dw q⟩
  · obtain ⟨z, e, q⟩ := q
    cases v1 with
    | tup e1 a1 =>
      cases v2
      obtain ⟨w, e2, dw⟩ := dvAtI a1 e
      exact .inr (.inl ⟨_, _, _, w, rfl, rfl, .of (B.sub _ _ e1), e2, fin.v B dw q⟩)
  · obtain ⟨hz, c, e, q⟩ := q
    cases v1
    cases v2
    exact .inr (.inr ⟨_, _, c, rfl, rfl, hz, e, fin.v B (.str _) q⟩)
  · exact q.elim
def cutP (ds : List PyData) (lo hi : Option Int) : List PyData := (ds.drop (HT.sIx ds.length 0 lo)).take (HT.sIx ds.length ds.length hi - HT.sIx ds.length 0 lo)
theorem dvTake {H : Hp} : ∀ {n : Nat} {vs : List V} {ds : List PyData}, DvAll H vs ds → DvAll H (vs.take n) (ds.take n)
  | 0, _, _, _ => .nil
  | n + 1, _, _, .nil => .nil
  | n + 1, _, _, .cons h t => .cons h (dvTake t)
theorem dvDrop {H : Hp} : ∀ {n : Nat} {vs : List V} {ds : List PyData}, DvAll H vs ds → DvAll H (vs.drop n) (ds.drop n)
  | 0, _, _, h => h
  | n + 1, _, _, .nil => .nil
  | n + 1, _, _, .cons h t => by
    rw [List.drop_succ_cons, List.drop_succ_cons]
    exact dvDrop t
theorem dvCut {H : Hp} {xs : List V} {ds : List PyData} (lo hi : Option Int) (h : DvAll H xs ds) : DvAll H (cutV xs lo hi) (cutP ds lo hi) := by
  unfold cutV cutP
  rw [h.len]
  exact dvTake (dvDrop h)
theorem cutP_all (ds : List PyData) {lo hi : Option Int} (h : HT.sIx ds.length 0 lo = 0 ∧ HT.sIx ds.length ds.length hi = ds.length) : cutP ds lo hi = ds := by
  unfold cutP
  rw [h.1, h.2, List.drop_zero, Nat.sub_zero, List.take_length]
abbrev VS := PyData → Option Int → Option Int → (Rv → Prop) → Prop
def vSl : VS
  | .list ds, l0, h0, Q => Q (.own (.lst (cutP ds l0 h0)))
  | .tuple ds, l0, h0, Q => Q (.v (.tuple (cutP ds l0 h0)))
  | .str z, l0, h0, Q => z.length ≤ sizeLine ∧ Q (.v (.str (cutS z l0 h0)))
  | _, _, _, _ => False
def liftSl (f : VS) : V → Option Int → Option Int → Hp → VK → Prop := fun x lo hi H R => ∃ (F : Fr) (G : Hp) (dx : PyData) (Q : Rv → Prop), Bs F H G ∧ Dv G x dx ∧ f dx lo hi Q ∧ Res F H G Q R
theorem oSl : SlR X (liftSl vSl) := fun pins s σ H x v vl vu lo hi sl R I rx hs pl pu ⟨F, G, dx, Q, B, v1, q, fin⟩ => by
  refine slAny pins s σ H x v vl vu lo hi sl R I rx hs pl pu ?_
  unfold vSl at q
  split at q
  · cases v1 with
    | lst e1 a1 => exact .inl ⟨_, .of (B.sub _ _ e1), fun p hp => fin.lst B (same_upd hp) hp upd_same (dvCut lo hi a1) q⟩
  · cases v1 with
    | tup e1 a1 =>
      refine .inr ⟨_, _, rfl, .of (B.sub _ _ e1), fun h => ?_, fun _ p hp => fin.tup B (same_upd hp) hp upd_same (dvCut lo hi a1) q⟩
      rw [a1.len] at h
      rw [cutP_all _ h] at q
      exact fin.v B (.tup e1 a1) q
  · cases v1
    exact ⟨q.1, fin.v B (.str _) q.2⟩
  · exact q.elim
end
end Vf
set_option backward.eqns.nonrecursive true
namespace Vf
open PySem L2 PyProof.Rows PySem.Spec
/-! ## readings by values: calls, names of one's own -/
abbrev DSp := List Rv → (Rv → Prop) → Prop
/-- a def's promise by values -/
def spD (sp : DSp) : Sp := fun vs H R _ => ∃ (F : Fr) (G : Hp) (rs : List Rv) (P : Rv → Prop), Bs F H G ∧ OksA F H G vs rs ∧ sp rs P ∧ ∀ (x : V) (H' G' : Hp) (r : Rv), Stp F H G H' G' → Okr H H' G' x r → P r → R x H'
def dCall (sp : DSp) (t : DTA) : DTE := fun en Q => t en fun rs en1 => sp rs fun r => Q r en1
section
variable {X : Cx} {x : Str} {ps : List Str} {k : Nat} {sp : DSp} {p pos : Pos} {e : Expr} {es : List Expr} {ta : DTA}
theorem lift_call {σ : L2.St} {H : Hp} {R : VK} (h : lift (dCall sp ta) σ H R) : tCall (spD sp) [] E0 (liftA ta) σ H R := by
  obtain ⟨F, en, G, Q, rl, h, fin⟩ := h
  refine ⟨F, en, G, _, rl, h, fun xs H1 G1 rs en1 s1 R1 ok q => ?_⟩
  show spD sp (xs ++ []) H1 R E0
  rw [List.append_nil]
  refine ⟨F, G1, rs, _, R1.bs, ok, q, fun z H' G' r S okr q => ?_⟩
  obtain ⟨R2, ok2, l2⟩ := R1.res' S okr
  exact fin z H' G' r en1 (s1.trans S.part) R2 ok2 l2 q
theorem dCallE (c : Cal X.prog X.w X.K X.mg X.base x ps k (spD sp)) (hgd : X.A.guards = some []) (hr : Room k X.A) (hg : Gl X x) (ha : DA X (e :: es) ta) (hdb : (x == ("__debug__" : Str)) = false := by decide)
    (he : starEach (e :: es) X.env = (false, eval e X.env) :: starEach es X.env := by rfl) (hpl : (backTo pos (starEach es X.env)).any (·.1) = false := by rfl) : DE X (.Call (.Name x p) (e :: es) [] pos) (dCall sp ta) := toE (pe_cal c hgd hr hg ha hdb he hpl) fun _ _ _ => lift_call
theorem dCall0E (c : Cal X.prog X.w X.K X.mg X.base x ps k (spD sp)) (hgd : X.A.guards = some []) (hr : Room k X.A) (hg : Gl X x) (hdb : (x == ("__debug__" : Str)) = false := by decide) : DE X (.Call (.Name x p) [] [] pos) (dCall sp dNil) :=
  toE (pe_cal0 c hgd hr hg hdb) fun σ H R h => by
    obtain ⟨F, en, G, Q, rl, h, fin⟩ := h
    refine ⟨F, G, [], _, rl.bs, trivial, h, fun z H' G' r S okr q => ?_⟩
    obtain ⟨R2, ok2, l2⟩ := rl.res' S okr
    exact fin z H' G' r en S.part R2 ok2 l2 q
theorem Cal.upV {P : Program} {w : World} {K : PySem.W.Frag} {mg : Str → Option Value} {base : Heap} {sp sp' : Sp} (c : Cal P w K mg base x ps k sp) (h : ∀ vs H Q E, sp' vs H Q E → sp vs H Q E) : Cal P w K mg base x ps k sp' := by
  obtain ⟨f, fd, F, r⟩ := c.ex
  exact ⟨f, fd, ⟨fun vs H Q E q => F.many vs H Q E (h vs H Q E q), fun A outer s H args us vs Q E hg hr env hb rv q => F.go A outer s H args us vs Q E hg hr env hb rv (h vs H Q E q)⟩, r⟩
/-- .. told less -/
theorem Cal.dsp {P : Program} {w : World} {K : PySem.W.Frag} {mg : Str → Option Value} {base : Heap} {sp sp' : DSp} (c : Cal P w K mg base x ps k (spD sp)) (h : ∀ rs P, sp' rs P → ∃ P', sp rs P' ∧ ∀ r, P' r → P r) : Cal P w K mg base x ps k (spD sp') :=
  c.upV fun vs H Q E ⟨F, G, rs, P, B, ok, q, fin⟩ => by
    obtain ⟨P', q', m⟩ := h rs P q
    exact ⟨F, G, rs, P', B, ok, q', fun x H' G' r S o p => fin x H' G' r S o (m r p)⟩
/-- by keywords, its defaults filling up: what is promised of these arguments -/
def spDK (sp : List Rv → List Rv → (Rv → Prop) → Prop) : List V → List V → Hp → VK → Prop := fun vs zs H R => ∃ (F : Fr) (G : Hp) (rs ks : List Rv) (P : Rv → Prop), Bs F H G ∧ OksA F H G vs rs ∧ OksA F H G zs ks ∧ sp rs ks P ∧ ∀ (x : V) (H' G' : Hp) (r : Rv), Stp F H G H' G' → Okr H H' G' x r → P r → R x H'
def DK (X : Cx) (kws : List Keyword) (t : DTA) : Prop := PK X kws (liftA t)
variable {kws : List Keyword} {tk : DTA} {nm : Option Str} {kpos : Pos} {te : DTE}
theorem toK {te : TA} {t : DTA} (h : PK X kws te) (w : ∀ σ H R, liftA t σ H R → te σ H R) : DK X kws t := ⟨fun pos pins s σ H Q I q => h.run pos pins s σ H Q I (w σ H Q q)⟩
theorem dkNil : DK X [] dNil := toK pk_nil fun σ H R ⟨F, en, G, Q, rl, h, fin⟩ => fin [] H G [] en (Same.refl G) rl trivial h
theorem lift_cons {σ : L2.St} {H : Hp} {R : List V → Hp → Prop} (h : liftA (dCons te tk) σ H R) : tCons (lift te) (liftA tk) σ H R := by
  obtain ⟨F, en, G, Q, rl, h, fin⟩ := h
  refine ⟨F, en, G, _, rl, h, fun x H1 G1 r en1 s1 R1 ok1 l1 q1 => ?_⟩
  obtain ⟨G2, r2, s2, R2, dv, q2⟩ := R1.useA ok1 l1 q1
  refine ⟨F, en1, G2, _, R2, q2, fun xs H3 G3 rs en3 s3 R3 ok3 q3 => fin (x :: xs) H3 G3 (r2 :: rs) en3 ((s1.trans s2).trans s3) R3 ?_ q3⟩
  rcases dv with ⟨d, rfl, dv⟩ | ⟨rfl, dv⟩ | rfl | ⟨A, rfl, dv⟩
  · exact ⟨dv.same s3, ok3⟩
  · exact ⟨dv, ok3⟩
  · exact ⟨rfl, ok3⟩
  · exact ⟨A.mono s3 dv, ok3⟩
theorem dkCons (ha : DE X e te) (hr : DK X kws tk) : DK X (⟨nm, e, kpos⟩ :: kws) (dCons te tk) := toK (pk_cons ha hr) fun _ _ _ => lift_cons
def dCallK (n m : Nat) (sp : List Rv → List Rv → (Rv → Prop) → Prop) (t tk : DTA) : DTE := fun en Q => t en fun rs en1 => tk en1 fun ks en2 => rs.length = n ∧ ks.length = m ∧ sp rs ks fun r => Q r en2
theorem OksA.len {F : Fr} {H G : Hp} : ∀ {xs : List V} {rs : List Rv}, OksA F H G xs rs → xs.length = rs.length
  | [], [], _ => rfl
  | _ :: _, .v _ :: _, ⟨_, h⟩ => congrArg (· + 1) h.len
  | _ :: _, .deck :: _, ⟨_, h⟩ => congrArg (· + 1) h.len
  | _ :: _, .glb _ :: _, ⟨_, h⟩ => congrArg (· + 1) h.len
  | _ :: _, .ab _ :: _, ⟨_, h⟩ => congrArg (· + 1) h.len
  | [], _ :: _, h => h.elim
  | _ :: _, [], h => h.elim
  | _ :: _, .non :: _, h => h.elim
  | _ :: _, .own _ :: _, h => h.elim
theorem lift_callK {n m : Nat} {spk : List Rv → List Rv → (Rv → Prop) → Prop} {gV : List V → List V → List V} {s0 : Sp} (hsp : ∀ vs zs H R, spDK spk vs zs H R → s0 (gV vs zs) H R E0) {σ : L2.St} {H : Hp} {R : VK} (h : lift (dCallK n m spk ta tk) σ H R) : tCalN n m gV s0 (liftA ta) (liftA tk) σ H R := by
  obtain ⟨F, en, G, Q, rl, h, fin⟩ := h
  refine ⟨F, en, G, _, rl, h, fun xs H1 G1 rs en1 s1 R1 ok q => ⟨F, en1, G1, _, R1, q, fun zs H2 G2 ks en2 s2 R2 ok2 ⟨l1, l2, q2⟩ => ⟨by rw [ok.len, l1], by rw [ok2.len, l2], hsp _ _ _ _ ⟨F, G2, rs, ks, _, R2.bs, ok.step s2, ok2, q2, fun z H' G' r S okr q => ?_⟩⟩⟩⟩
  obtain ⟨R3, ok3, l3⟩ := R2.res' S okr
  exact fin z H' G' r en2 ((s1.trans s2).trans S.part) R3 ok3 l3 q
theorem dCallKE {ks : List Str} {n : Nat} {spk : List Rv → List Rv → (Rv → Prop) → Prop} {gV : List V → List V → List V} {s0 : Sp} (c : CalN X.prog X.w X.K X.mg X.base x ps ks n gV k s0) (hsp : ∀ vs zs H R, spDK spk vs zs H R → s0 (gV vs zs) H R E0) (hgd : X.A.guards = some []) (hr : Room k X.A) (hg : Gl X x) (ha : DA X (e :: es) ta) (hkw : DK X kws tk)
    (hal : (backToKw pos (keywordEach kws X.env)).all (·.1.isSome) = true := by rfl) (hks : (backToKw pos (keywordEach kws X.env)).filterMap (·.1) = ks := by rfl) (hdb : (x == ("__debug__" : Str)) = false := by decide)
    (he : starEach (e :: es) X.env = (false, eval e X.env) :: starEach es X.env := by rfl)
    (hpl : ((backTo pos (starEach (e :: es) X.env)).any (·.1) || (backToKw pos (keywordEach kws X.env)).any (·.1.isNone)) = false := by rfl) : DE X (.Call (.Name x p) (e :: es) kws pos) (dCallK n ks.length spk ta tk) := toE (pe_calN c hgd hr hg ha hkw hal hks hdb he hpl) fun _ _ _ => lift_callK hsp
theorem dCallK0E {ks : List Str} {n : Nat} {spk : List Rv → List Rv → (Rv → Prop) → Prop} {gV : List V → List V → List V} {s0 : Sp} (c : CalN X.prog X.w X.K X.mg X.base x ps ks n gV k s0) (hsp : ∀ vs zs H R, spDK spk vs zs H R → s0 (gV vs zs) H R E0) (hgd : X.A.guards = some []) (hr : Room k X.A) (hg : Gl X x) (hkw : DK X kws tk)
    (hal : (backToKw pos (keywordEach kws X.env)).all (·.1.isSome) = true := by rfl) (hks : (backToKw pos (keywordEach kws X.env)).filterMap (·.1) = ks := by rfl) (hdb : (x == ("__debug__" : Str)) = false := by decide)
    (hpl : ((backTo pos (starEach [] X.env)).any (·.1) || (backToKw pos (keywordEach kws X.env)).any (·.1.isNone)) = false := by rfl) : DE X (.Call (.Name x p) [] kws pos) (dCallK n ks.length spk dNil tk) :=
  toE (pe_calN0 c hgd hr hg hkw hal hks hdb hpl) fun σ H R h => by
    obtain ⟨F, en, G, Q, rl, h, fin⟩ := h
    refine ⟨F, en, G, _, rl, h, fun zs H2 G2 ks en2 s2 R2 ok2 ⟨l1, l2, q2⟩ => ⟨l1, by rw [ok2.len, l2], hsp _ _ _ _ ⟨F, G2, [], ks, _, R2.bs, trivial, ok2, q2, fun z H' G' r S okr q => ?_⟩⟩⟩
    obtain ⟨R3, ok3, l3⟩ := R2.res' S okr
    exact fin z H' G' r en2 (s2.trans S.part) R3 ok3 l3 q
end
/-! ### a def by its body -/
def startE (N : List Str) (rs : List Rv) : Ev := rs ++ List.replicate (N.length - rs.length) .non
def okRet (P : Rv → Prop) : Rv → Prop
  | .v d => P (.v d)
  | .own c => P (.own c)
  | .glb v => P (.glb v)
  | .ab A => P (.ab A)
  | .non => False
  | .deck => False
theorem OksA.get {F : Fr} {H G : Hp} : ∀ {xs : List V} {rs : List Rv} {i : Nat} {r : Rv}, OksA F H G xs rs → rs[i]? = some r → ∃ x, xs[i]? = some x ∧ Ok F H G x r ∧ ∀ c, r ≠ .own c
  | [], [], i, r, _, e => by simp at e
  | x :: xs, .v d :: rs, 0, r, ⟨h, _⟩, e => by
    simp at e
    subst e
    exact ⟨x, rfl, h, nofun⟩
  | x :: xs, .deck :: rs, 0, r, ⟨h, _⟩, e => by
    simp at e
    subst e
    exact ⟨x, rfl, h, nofun⟩
  | x :: xs, .glb v :: rs, 0, r, ⟨h, _⟩, e => by
    simp at e
    subst e
    exact ⟨x, rfl, h, nofun⟩
  | x :: xs, .ab A :: rs, 0, r, ⟨h, _⟩, e => by
    simp at e
    subst e
    exact ⟨x, rfl, h, nofun⟩
  | x :: xs, .v d :: rs, i + 1, r, ⟨_, h⟩, e => by
    obtain ⟨y, e1, q⟩ := h.get (i := i) (r := r) (by simpa using e)
    exact ⟨y, by simpa using e1, q⟩
  | x :: xs, .deck :: rs, i + 1, r, ⟨_, h⟩, e => by
    obtain ⟨y, e1, q⟩ := h.get (i := i) (r := r) (by simpa using e)
    exact ⟨y, by simpa using e1, q⟩
  | x :: xs, .glb _ :: rs, i + 1, r, ⟨_, h⟩, e => by
    obtain ⟨y, e1, q⟩ := h.get (i := i) (r := r) (by simpa using e)
    exact ⟨y, by simpa using e1, q⟩
  | x :: xs, .ab _ :: rs, i + 1, r, ⟨_, h⟩, e => by
    obtain ⟨y, e1, q⟩ := h.get (i := i) (r := r) (by simpa using e)
    exact ⟨y, by simpa using e1, q⟩
  | [], _ :: _, _, _, h, _ => h.elim
  | _ :: _, [], _, _, h, _ => h.elim
  | _ :: _, .non :: _, _, _, h, _ => h.elim
  | _ :: _, .own _ :: _, _, _, h, _ => h.elim
theorem rl_start {F : Fr} {N : List Str} {H G : Hp} {xs : List V} {rs : List Rv} (B : Bs F H G) (h : OksA F H G xs rs) : Rl (F.at H G) (startE N rs) (L2.start N xs) H G := by
  have hl := h.len
  have cut : ∀ {i : Nat} {r : Rv}, (startE N rs)[i]? = some r → r ≠ .non → rs[i]? = some r := fun {i r} e n => by
    unfold startE at e
    by_cases hi : i < rs.length
    · rw [List.getElem?_append_left hi] at e
      exact e
    · rw [List.getElem?_append_right (by omega), List.getElem?_replicate] at e
      split at e
      · cases e
        exact absurd rfl n
      · cases e
  refine ⟨B.dok, ⟨B.dok, B.sub, B.nd⟩, ⟨B.dok, fun b o e _ => e, B.sub, B.nd, Same.refl G, fun _ _ _ _ h => h⟩, fun i r e n => ?_, fun i j c c' e _ _ => ?_, ?_⟩
  · obtain ⟨x, e1, k, no⟩ := h.get (cut e n)
    refine ⟨x, ?_, ?_⟩
    · unfold L2.start
      rw [List.getElem?_append_left (by rw [List.length_map]; exact (List.getElem?_eq_some_iff.mp e1).1), List.getElem?_map, e1]
      rfl
    · cases r with
      | own c => exact absurd rfl (no c)
      | non => trivial
      | v d => exact k
      | deck => exact k
      | glb v => exact k
      | ab A => exact k
  · obtain ⟨_, _, _, no⟩ := h.get (cut e (by nofun))
    exact absurd rfl (no c)
  · unfold startE L2.start
    simp only [List.length_append, List.length_replicate, List.length_map, hl]
theorem fin_end {F : Fr} {H G : Hp} {P : Rv → Prop} {Q : VK} (q : ∀ (x : V) (H' G' : Hp) (r : Rv), Stp F H G H' G' → Okr H H' G' x r → P r → Q x H') : FinS (F.at H G) G ⟨fun _ => P (.v .none), okRet P, fun _ => False, fun _ => False⟩ { nx := fun _ H' => Q .non H', rt := Q } where
  nx := fun σ' en' H' G' s R p => q .non H' G' (.v .none) ⟨R.st.dok, R.st.big, R.st.sub, R.st.nd, R.st.part, R.st.only⟩ Dv.non p
  bk := fun _ _ _ _ _ _ h => h
  ct := fun _ _ _ _ _ _ h => h
  rt := fun x σ' H' G' r en' s R ok p => by
    have S : Stp F H G H' G' := ⟨R.st.dok, R.st.big, R.st.sub, R.st.nd, R.st.part, R.st.only⟩
    cases r with
    | non => exact p.elim
    | deck => exact p.elim
    | glb v => exact q x H' G' (.glb v) S ok p
    | ab A => exact q x H' G' (.ab A) S ok p
    | v d => exact q x H' G' (.v d) S ok p
    | own c =>
      obtain ⟨a, o, rfl, h1, h2, h3, h4, h5⟩ := ok
      exact q _ H' G' (.own c) S ⟨a, o, rfl, h5, h1, h2, h3⟩ p
theorem Df.calD {K : PySem.W.Frag} {P : Program} {w : World} {base : Heap} {mg : Str → Option Value} {x : Str} {st : Stmt} {f : Addr} {fd : FuncData} {N ps : List Str} {k : Nat} {sp : DSp} (D : Df K mg x st f fd) (S : FnScope N ps (defScope st)) (many : ∀ rs P, sp rs P → rs.length = ps.length)
    (bi : ∀ (kV doc pm : Value) (an : Option Addr) (cdv ct : Value) (us : List Value), us.length = ps.length → bindArgs (PySem.W.fnOf x x (defArgs st) (defBody st) (defScope st) .none kV doc pm an cdv ct) ⟨us, []⟩ = pure (ps.zip us))
    (bd : ∀ (cdv : Value) (A : Around) (outer : List Env) (s : Shared) (H : Hp) (E : XK), (A.deeper (envOfC x (defScope st) s.heap.objs.size f cdv)).guards = some [] → Room k (A.deeper (envOfC x (defScope st) s.heap.objs.size f cdv)) →
      ∃ t, DSs (cxOf CX0 P w K mg base N x (defScope st) f cdv A outer s H E).nox (defBody st) t ∧ ∀ rs P, sp rs P → t ⟨fun _ => P (.v .none), okRet P, fun _ => False, fun _ => False⟩ (startE N rs)) : Cal P w K mg base x ps (k + 1) (spD sp) :=
  D.cal S (fun vs H Q E ⟨F, G, rs, P, B, ok, h, q⟩ => by rw [ok.len]; exact many rs P h) bi fun cdv A outer s H vs Q E hgu hr ⟨F, G, rs, Pr, B, ok, h, q⟩ => by
    obtain ⟨t, h1, h2⟩ := bd cdv A outer s H E hgu hr
    exact ⟨_, h1, F.at H G, startE N rs, G, _, rl_start B ok, h2 rs Pr h, fin_end q⟩
/-! ### names of one's own, read and written where they stand -/
/-- what a name has, the name staying as it is -/
def rdR : Option Rv → (PyData → Prop) → Prop
  | some (.v d), P => P d
  | some (.own c), P => P c.data
  | some .non, _ => False
  | some .deck, _ => False
  | some (.glb _), _ => False
  | some (.ab _), _ => False
  | none, _ => False
theorem rdR.get {o : Option Rv} {P : PyData → Prop} (h : rdR o P) : (∃ d, o = some (.v d) ∧ P d) ∨ ∃ c, o = some (.own c) ∧ P c.data := by
  match o, h with
  | some (.v d), h => exact .inl ⟨d, rfl, h⟩
  | some (.own c), h => exact .inr ⟨c, rfl, h⟩
def rdE (en : Ev) (i : Nat) (P : PyData → Prop) : Prop := rdR en[i]? P
theorem Rl.read {F : Fr} {en : Ev} {σ : L2.St} {H G : Hp} {i : Nat} {P : PyData → Prop} (R : Rl F en σ H G) (h : rdE en i P) : ∃ x G' d, σ[i]? = some (some x) ∧ Same G G' ∧ Same G' H ∧ Dv G' x d ∧ P d := by
  rcases rdR.get h with ⟨d, e, h⟩ | ⟨c, e, h⟩
  · obtain ⟨x, e1, k⟩ := R.slot i _ e nofun
    exact ⟨x, G, d, e1, Same.refl G, R.bs.sub, k, h⟩
  · obtain ⟨a, o, e1, h1, h2, h3, h4, h5⟩ := R.own e
    refine ⟨_, upd G a o, c.data, e1, same_upd h3, fun b u eb => ?_, (h2.same (same_upd h3)).dv upd_same, h⟩
    by_cases hb : b = a
    · subst hb
      rw [upd_same] at eb
      rw [h1]
      exact eb
    · rw [upd_ne hb] at eb
      exact R.bs.sub _ _ eb
def dBinL (i : Nat) (f : S2) (tb : DTE) : DTE := fun en Q => rdE en i (fun _ => True) ∧ tb en fun r2 en2 => asD r2 fun d2 => rdE en2 i fun d1 => f d1 d2 fun z => Q (.v z) en2
def dBinR (i : Nat) (f : S2) (ta : DTE) : DTE := fun en Q => ta en fun r1 en1 => asD r1 fun d1 => rdE en1 i fun d2 => f d1 d2 fun z => Q (.v z) en1
def dIxVar (i : Nat) (f : V2) (tb : DTE) : DTE := fun en Q => rdE en i (fun _ => True) ∧ tb en fun r2 en2 => asD r2 fun d2 => rdE en2 i fun d1 => f d1 d2 fun z => asD z fun d => Q (.v d) en2
section
variable {X : Cx} {a b e : Expr} {pos : Pos} {ta tb te : DTE} {i : Nat}
theorem lift_binL {f : S2} {σ : L2.St} {H : Hp} {R : VK} (h : lift (dBinL i f tb) σ H R) : tOp (liftP2 f) (tVar i) (lift tb) σ H R := by
  obtain ⟨F, en, G, Q, rl, ⟨h0, h⟩, fin⟩ := h
  obtain ⟨x, _, _, ex, _⟩ := rl.read h0
  refine ⟨x, ex, lift_data rl h fun y H2 G2 d2 en2 s2 R2 v2 h2 => ?_⟩
  obtain ⟨x', G', d1, ex', sg, sh, v1, q⟩ := R2.read h2
  rw [ex] at ex'
  cases ex'
  exact ⟨G', d1, d2, _, sh, v1, v2.same sg, q, fun z d p k => fin.v s2 R2 (k G2) p⟩
theorem lift_binR {f : S2} {σ : L2.St} {H : Hp} {R : VK} (h : lift (dBinR i f ta) σ H R) : tOp (liftP2 f) (lift ta) (tVar i) σ H R := by
  obtain ⟨F, en, G, Q, rl, h, fin⟩ := h
  refine lift_data rl h fun y H2 G2 d2 en2 s2 R2 v2 h2 => ?_
  obtain ⟨x', G', d1, ex', sg, sh, v1, q⟩ := R2.read h2
  exact ⟨x', ex', G', d2, d1, _, sh, v2.same sg, v1, q, fun z d p k => fin.v s2 R2 (k G2) p⟩
theorem dCmpL {op : CmpOp} {f : S2} (ho : OpR X (compareOp op) (liftP2 f)) (ha : PE X a (tVar i)) (hb : DE X b tb) (hm : behindInMarks op b = false) : DE X (.Compare a [op] [b] pos) (dBinL i f tb) := toE (pe_cmpR ho ha hb hm) fun _ _ _ => lift_binL
theorem dCmpR {op : CmpOp} {f : S2} (ho : OpR X (compareOp op) (liftP2 f)) (ha : DE X a ta) (hb : PE X b (tVar i)) (hm : behindInMarks op b = false) : DE X (.Compare a [op] [b] pos) (dBinR i f ta) := toE (pe_cmpR ho ha hb hm) fun _ _ _ => lift_binR
theorem dtCmpL {op : CmpOp} {f : S2} (ho : OpR X (compareOp op) (liftP2 f)) (ha : PE X a (tVar i)) (hb : DE X b tb) (hm : behindInMarks op b = false) : DT X (.Compare a [op] [b] pos) (dTest (dBinL i f tb)) :=
  toT (pt_cmpR ho ha hb hm) fun σ H R ⟨F, en, G, Q, rl, h, fin⟩ => lift_binL (lift_data rl h fun x H1 G1 d en1 s1 R1 v1 h1 => by
    cases v1 with
    | bl b => exact ⟨b, rfl, fin b H1 G1 en1 s1 R1 h1⟩
    | _ => exact False.elim h1)
theorem dtCmpR {op : CmpOp} {f : S2} (ho : OpR X (compareOp op) (liftP2 f)) (ha : DE X a ta) (hb : PE X b (tVar i)) (hm : behindInMarks op b = false) : DT X (.Compare a [op] [b] pos) (dTest (dBinR i f ta)) :=
  toT (pt_cmpR ho ha hb hm) fun σ H R ⟨F, en, G, Q, rl, h, fin⟩ => lift_binR (lift_data rl h fun x H1 G1 d en1 s1 R1 v1 h1 => by
    cases v1 with
    | bl b => exact ⟨b, rfl, fin b H1 G1 en1 s1 R1 h1⟩
    | _ => exact False.elim h1)
/-- o[i], o a name -/
theorem dIxVarE (ha : PE X a (tVar i)) (hb : DE X b tb) (hs : PlainIx b) : DE X (.Subscript a b pos) (dIxVar i vIx tb) := toE (pe_ix (ix_seq) ha hb hs) fun σ H R h => by
  obtain ⟨F, en, G, Q, rl, ⟨h0, h⟩, fin⟩ := h
  obtain ⟨x, _, _, ex, _⟩ := rl.read h0
  refine ⟨x, ex, lift_data rl h fun y H2 G2 d2 en2 s2 R2 v2 h2 => ?_⟩
  have key : ∀ {xs : List V} {ds : List PyData} {j : Int} {z : PyData}, DvAll G2 xs ds → atI ds j = some z → Q (.v z) en2 → ∃ w, atI xs j = some w ∧ R w H2 := fun {xs ds j z} a1 e q => by
    obtain ⟨w, e2, dw⟩ := dvAtI a1 e
    exact ⟨w, e2, fin.v s2 R2 dw q⟩
  rcases rdR.get h2 with ⟨d, e, h2⟩ | ⟨c, e, h2⟩
  · obtain ⟨x', ex', k⟩ := R2.slot i _ e nofun
    rw [ex] at ex'
    cases ex'
    have k : Dv G2 x d := k
    unfold vIx at h2
    split at h2
    · obtain ⟨z, e, q⟩ := h2
      cases k with
      | lst e1 a1 =>
        cases v2
        obtain ⟨w, e2, q⟩ := key a1 e q
        exact .inl ⟨_, _, _, w, rfl, rfl, .of (R2.bs.sub _ _ e1), e2, q⟩
    · obtain ⟨z, e, q⟩ := h2
      cases k with
      | tup e1 a1 =>
        cases v2
        obtain ⟨w, e2, q⟩ := key a1 e q
        exact .inr (.inl ⟨_, _, _, w, rfl, rfl, .of (R2.bs.sub _ _ e1), e2, q⟩)
    · obtain ⟨hz, c, e, q⟩ := h2
      cases k
      cases v2
      exact .inr (.inr ⟨_, _, c, rfl, rfl, hz, e, fin.v s2 R2 (.str _) q⟩)
    · exact h2.elim
  · obtain ⟨a, o, ex', h1, h3, _⟩ := R2.own e
    rw [ex] at ex'
    cases ex'
    cases c with
    | dic kvs => exact h2.elim
    | lst ds =>
      cases o with
      | lst xs =>
        have h2 : vIx (.list ds) d2 fun z => asD z fun d => Q (.v d) en2 := h2
        cases d2 with
        | int j =>
          obtain ⟨z, e, q⟩ := h2
          cases v2
          obtain ⟨w, e2, q⟩ := key h3 e q
          exact .inl ⟨_, _, _, w, rfl, rfl, .of h1, e2, q⟩
        | _ => exact h2.elim
      | _ => exact h3.elim
variable {apos cpos : Pos}
/-- is it a list of one's own -/
def isOwnLR : Option Rv → Prop
  | some (.own (.lst _)) => True
  | some (.own (.dic _)) => False
  | some .non => False
  | some .deck => False
  | some (.glb _) => False
  | some (.ab _) => False
  | some (.v _) => False
  | none => False
def isOwnL (en : Ev) (i : Nat) : Prop := isOwnLR en[i]?
def ownL : Option Rv → (List PyData → Prop) → Prop
  | some (.own (.lst ds)), P => P ds
  | some (.own (.dic _)), _ => False
  | some .non, _ => False
  | some .deck, _ => False
  | some (.glb _), _ => False
  | some (.ab _), _ => False
  | some (.v _), _ => False
  | none, _ => False
theorem isOwnLR.get {o : Option Rv} (h : isOwnLR o) : ∃ ds, o = some (.own (.lst ds)) := by
  match o, h with
  | some (.own (.lst ds)), h => exact ⟨ds, rfl⟩
theorem ownL.get {o : Option Rv} {P : List PyData → Prop} (h : ownL o P) : ∃ ds, o = some (.own (.lst ds)) ∧ P ds := by
  match o, h with
  | some (.own (.lst ds)), h => exact ⟨ds, rfl, h⟩
theorem Rl.ownL {F : Fr} {en : Ev} {σ : L2.St} {H G : Hp} {i : Nat} (R : Rl F en σ H G) (h : isOwnL en i) : ∃ a xs, σ[i]? = some (some (.ref a)) ∧ H a = some (.lst xs) := by
  obtain ⟨ds, e⟩ := isOwnLR.get h
  obtain ⟨a, o, e1, h1, h2, _⟩ := R.own e
  cases o with
  | lst xs => exact ⟨a, xs, e1, h1⟩
  | _ => exact h2.elim
theorem tyL {K : PySem.W.Frag} {H : Hp} {a : Addr} {xs : List V} (e : H a = some (.lst xs)) : tyV K "list" (.ref a) H := .inl ⟨rfl, xs, .of e⟩
def dAppend (i : Nat) (te : DTE) : DTE := fun en Q => isOwnL en i ∧ te en fun r en1 => asD r fun d => ownL en1[i]? fun ds => ds.length < sizeLine ∧ Q (.v .none) (en1.set i (.own (.lst (ds ++ [d]))))
def dExtend (i : Nat) (te : DTE) : DTE := fun en Q => isOwnL en i ∧ te en fun r en1 => asD r fun d => ownL en1[i]? fun ds => asTL d fun es => ds.length + es.length ≤ sizeLine ∧ Q (.v .none) (en1.set i (.own (.lst (ds ++ es))))
def dPop (i : Nat) : DTE := fun en Q => ownL en[i]? fun ds => ∃ d, ds[ds.length - 1]? = some d ∧ Q (.v d) (en.set i (.own (.lst ds.dropLast)))
theorem dvInit {H : Hp} : ∀ {xs : List V} {ds : List PyData}, DvAll H xs ds → DvAll H xs.dropLast ds.dropLast
  | _, _, .nil => .nil
  | _, _, .cons _ .nil => .nil
  | _, _, .cons h (.cons a t) => .cons h (dvInit (.cons a t))
theorem dAppendE {o : Expr} (ho : PE X o (tVar i)) (he : DE X e te) (hbase : attributeBase o "append" X.env (eval o X.env) = eval o X.env := by rfl)
    (hfew : ((backTo cpos (starEach [e] X.env)).all (fun x => !x.1) && (backToKw cpos (keywordEach [] X.env)).all (fun x => x.1.isSome)
      && decide ([e].length + ([] : List Keyword).length + (if ([] : List Keyword).isEmpty then 0 else 1) < 30)) = true := by rfl)
    (hline : (apos.endLine == cpos.line) = true := by rfl) (hs : starEach [e] X.env = (false, eval e X.env) :: starEach [] X.env := by rfl) (hplain : (backTo cpos (starEach [] X.env)).any (·.1) = false := by rfl) :
    DE X (.Call (.Attribute o "append" apos) [e] [] cpos) (dAppend i te) :=
  toE (pe_bm PySem.F.plainAttrs_list PySem.F.slot_list_append PySem.F.type_list_append mt_append ho (pa_cons he pa_nil hs) hbase hfew hline hs hplain) fun σ H R h => by
    obtain ⟨F, en, G, Q, rl, ⟨h0, h⟩, fin⟩ := h
    obtain ⟨a, xs, ex, ea⟩ := rl.ownL h0
    refine ⟨_, ex, tyL ea, lift_data rl h fun y H2 G2 d en2 s2 R2 v2 h2 => ?_⟩
    obtain ⟨ds, e2, h2⟩ := ownL.get h2
    · obtain ⟨a', o', ex', h1, h3, _⟩ := R2.own e2
      rw [ex] at ex'
      cases ex'
      cases o' with
      | lst ys =>
        have h3 : DvAll G2 ys ds := h3
        have h4 : CtOk G2 (.lst (ys ++ [y])) (.lst (ds ++ [d])) := dvApp h3 (.cons v2 .nil)
        exact ⟨a, ys, y, rfl, rfl, h1, by rw [h3.len]; exact h2.1, fin.v s2 (R2.write e2 ex h4) .non h2.2⟩
      | _ => exact h3.elim
def rExtA (K : PySem.W.Frag) : V → List V → Hp → VK → Prop := fun x vs H Q => rExtend x vs H Q ∨ rExtendT K x vs H Q
theorem mt_extA : MtM X "list.extend" (rExtA X.K) := by
  intro pins s σ H x xs v us Q I rx rv h
  rcases h with h | h
  · exact mt_extend pins s σ H x xs v us Q I rx rv h
  · exact mt_extendT pins s σ H x xs v us Q I rx rv h
theorem dExtendE {o : Expr} (ho : PE X o (tVar i)) (he : DE X e te) (hbase : attributeBase o "extend" X.env (eval o X.env) = eval o X.env := by rfl)
    (hfew : ((backTo cpos (starEach [e] X.env)).all (fun x => !x.1) && (backToKw cpos (keywordEach [] X.env)).all (fun x => x.1.isSome)
      && decide ([e].length + ([] : List Keyword).length + (if ([] : List Keyword).isEmpty then 0 else 1) < 30)) = true := by rfl)
    (hline : (apos.endLine == cpos.line) = true := by rfl) (hs : starEach [e] X.env = (false, eval e X.env) :: starEach [] X.env := by rfl) (hplain : (backTo cpos (starEach [] X.env)).any (·.1) = false := by rfl) :
    DE X (.Call (.Attribute o "extend" apos) [e] [] cpos) (dExtend i te) :=
  toE (pe_bm PySem.F.plainAttrs_list PySem.F.slot_list_extend PySem.F.type_list_extend mt_extA ho (pa_cons he pa_nil hs) hbase hfew hline hs hplain) fun σ H R h => by
    obtain ⟨F, en, G, Q, rl, ⟨h0, h⟩, fin⟩ := h
    obtain ⟨a, xs, ex, ea⟩ := rl.ownL h0
    refine ⟨_, ex, tyL ea, lift_data rl h fun y H2 G2 d en2 s2 R2 v2 h2 => ?_⟩
    obtain ⟨ds, e2, h2⟩ := ownL.get h2
    · obtain ⟨a', o', ex', h1, h3, _⟩ := R2.own e2
      rw [ex] at ex'
      cases ex'
      cases o' with
      | lst ys =>
        have h3 : DvAll G2 ys ds := h3
        cases v2 with
        | @lst _ _ es e5 a5 =>
          have h4 : CtOk G2 (.lst (ys ++ _)) (.lst (ds ++ es)) := dvApp h3 a5
          exact .inl ⟨a, _, ys, _, rfl, rfl, h1, R2.bs.sub _ _ e5, by rw [h3.len, a5.len]; exact h2.1, fin.v s2 (R2.write e2 ex h4) .non h2.2⟩
        | @tup _ _ es e5 a5 =>
          have h4 : CtOk G2 (.lst (ys ++ _)) (.lst (ds ++ es)) := dvApp h3 a5
          exact .inr ⟨a, _, ys, _, rfl, rfl, h1, .of (R2.bs.sub _ _ e5), by rw [h3.len, a5.len]; exact h2.1, fin.v s2 (R2.write e2 ex h4) .non h2.2⟩
        | _ => exact False.elim h2
      | _ => exact h3.elim
theorem dPopE {o : Expr} (ho : PE X o (tVar i)) (hbase : attributeBase o "pop" X.env (eval o X.env) = eval o X.env := by rfl) (hline : (apos.endLine == cpos.line) = true := by rfl) :
    DE X (.Call (.Attribute o "pop" apos) [] [] cpos) (dPop i) :=
  toE (pe_bm0 PySem.F.plainAttrs_list PySem.F.slot_list_pop PySem.F.type_list_pop mt_pop ho hbase hline) fun σ H R h => by
    obtain ⟨F, en, G, Q, rl, h, fin⟩ := h
    obtain ⟨ds, e2, h⟩ := ownL.get h
    · obtain ⟨d, ed, q⟩ := h
      obtain ⟨a, o', ex, h1, h3, _⟩ := rl.own e2
      cases o' with
      | lst ys =>
        have h3 : DvAll G ys ds := h3
        obtain ⟨w, ew, dw⟩ := dvOf h3 ed
        have h4 : CtOk G (.lst ys.dropLast) (.lst ds.dropLast) := dvInit h3
        exact ⟨_, ex, tyL h1, a, ys, w, rfl, rfl, h1, by rw [h3.len]; exact ew, fin.v (Same.refl G) (rl.write e2 ex h4) dw q⟩
      | _ => exact h3.elim
/-! ### cuts -/
def asI : PyData → (Int → Prop) → Prop
  | .int i, P => P i
  | _, _ => False
def dPartN : Ev → (Option Int → Ev → Prop) → Prop := fun en Q => Q none en
def dPart (t : DTE) : Ev → (Option Int → Ev → Prop) → Prop := fun en Q => t en fun r en1 => asD r fun d => asI d fun i => Q (some i) en1
abbrev DTO := Ev → (Option Int → Ev → Prop) → Prop
def liftO (t : DTO) : TO := fun σ H R => ∃ (F : Fr) (en : Ev) (G : Hp) (Q : Option Int → Ev → Prop), Rl F en σ H G ∧ t en Q ∧ ∀ (o : Option Int) (H' G' : Hp) (en' : Ev), Same G G' → Rl F en' σ H' G' → Q o en' → R o H'
def DO (X : Cx) (e : Option Expr) (t : DTO) : Prop := PO X e (liftO t)
theorem toO {o : Option Expr} {te : TO} {t : DTO} (h : PO X o te) (w : ∀ σ H R, liftO t σ H R → te σ H R) : DO X o t := ⟨fun pins s σ H Q I q => h.run pins s σ H Q I (w σ H Q q)⟩
theorem doNone : DO X none dPartN := toO po_none fun σ H R ⟨F, en, G, Q, rl, q, fin⟩ => fin none H G en (Same.refl G) rl q
theorem doSome (he : DE X e te) : DO X (some e) (dPart te) := toO (po_some he) fun σ H R ⟨F, en, G, Q, rl, q, fin⟩ => lift_data rl q fun x H1 G1 d en1 s1 R1 v1 h1 => by
  cases v1 with
  | int i => exact ⟨i, rfl, fin _ H1 G1 en1 s1 R1 h1⟩
  | _ => exact False.elim h1
def dSl (f : VS) (t : DTE) (lo hi : DTO) : DTE := fun en Q => t en fun r en1 => asD r fun d => lo en1 fun l en2 => hi en2 fun h en3 => f d l h fun z => Q z en3
theorem dSlE {lo hi : Option Expr} {tl th : DTO} {p2 : Pos} (he : DE X e te) (hl : DO X lo tl) (hh : DO X hi th) : DE X (.Subscript e (.Slice lo hi none p2) pos) (dSl vSl te tl th) :=
  toE (pe_slice oSl he hl hh) fun σ H R ⟨F, en, G, Q, rl, q, fin⟩ => lift_data rl q fun x H1 G1 d en1 s1 R1 v1 h1 =>
    ⟨F, en1, G1, _, R1, h1, fun l H2 G2 en2 s2 R2 h2 => ⟨F, en2, G2, _, R2, h2, fun u H3 G3 en3 s3 R3 h3 => ⟨F, G3, d, _, R3.bs, (v1.same s2).same s3, h3, fun z H4 G4 r S ok q => by
      obtain ⟨R4, ok4, l4⟩ := R3.res' S ok
      exact fin z H4 G4 r en3 (((s1.trans s2).trans s3).trans S.part) R4 ok4 l4 q⟩⟩⟩
end
end Vf
set_option backward.eqns.nonrecursive true
namespace Vf
open PySem L2 PyProof.Rows PySem.Spec
/-! ## readings by values: built-ins -/
def sLen : S1
  | .str y, P => y.length ≤ sizeLine ∧ P (.int y.length)
  | .list ds, P => P (.int ds.length)
  | .tuple ds, P => P (.int ds.length)
  | _, _ => False
section
variable {X : Cx}
theorem bLenP : CallR X (.builtin "len") (liftPC sLen) := fun pins s σ H xs us R I rx ⟨G, x, d, P, e, sm, v1, q, fin⟩ => by
  refine call_len pins s σ H xs us R I rx ?_
  unfold sLen at q
  split at q
  · cases v1
    exact ⟨_, _, e, ⟨q.1, rfl⟩, fin _ _ q.2 fun _ => .int _⟩
  · cases v1 with
    | lst e1 a1 => exact ⟨_, _, e, .inl ⟨_, .of (sm _ _ e1), rfl⟩, by rw [a1.len]; exact fin _ _ q fun _ => .int _⟩
  · cases v1 with
    | tup e1 a1 => exact ⟨_, _, e, .inr ⟨_, .of (sm _ _ e1), rfl⟩, by rw [a1.len]; exact fin _ _ q fun _ => .int _⟩
  · exact q.elim
theorem bLen : CallR X (.builtin "len") (liftC (sC sLen)) := upC bLenP
/-- f(x), x a name, the name staying as it is -/
def dBltVar (i : Nat) (f : S1) : DTE := fun en Q => rdE en i fun d => f d fun z => Q (.v z) en
variable {e : Expr} {p pos : Pos} {i : Nat}
theorem dCallBV {x : Str} {id : String} {f : S1} (hc : CallR X (.builtin id) (liftPC f)) (hg : Gl X x) (hm : X.mg x = none) (hv : bootBuiltins x = some (.builtin id)) (ha : PE X e (tVar i)) (hn : x ≠ "__name__" := by decide) (hdb : (x == ("__debug__" : Str)) = false := by decide)
    (he : starEach [e] X.env = (false, eval e X.env) :: starEach [] X.env := by rfl) (hpl : (backTo pos (starEach [] X.env)).any (·.1) = false := by rfl) : DE X (.Call (.Name x p) [e] [] pos) (dBltVar i f) :=
  toE (pe_callB hc hg hm hv (pa_cons ha pa_nil he) hn hdb he hpl) fun σ H R h => by
    obtain ⟨F, en, G, Q, rl, h, fin⟩ := h
    obtain ⟨x, G', d, ex, sg, sh, v1, q⟩ := rl.read h
    exact ⟨x, ex, G', x, d, _, rfl, sh, v1, q, fun z d p k => fin.v (Same.refl G) rl (k G) p⟩
/-- all of them truths, numbers, texts -/
def asBs : List PyData → (List Bool → Prop) → Prop
  | [], P => P []
  | .bool b :: r, P => asBs r fun bs => P (b :: bs)
  | _, _ => False
def asIs : List PyData → (List Int → Prop) → Prop
  | [], P => P []
  | .int b :: r, P => asIs r fun bs => P (b :: bs)
  | _, _ => False
def asSs : List PyData → (List Str → Prop) → Prop
  | [], P => P []
  | .str b :: r, P => asSs r fun bs => P (b :: bs)
  | _, _ => False
theorem asBs.get {G : Hp} : ∀ {xs : List V} {ds : List PyData} {P : List Bool → Prop}, DvAll G xs ds → asBs ds P → ∃ bs, xs = bs.map V.bl ∧ P bs
  | _, _, _, .nil, h => ⟨[], rfl, h⟩
  | _, _, P, .cons (.bl b) t, h => by
    obtain ⟨bs, e, q⟩ := asBs.get (P := fun bs => P (b :: bs)) t h
    exact ⟨b :: bs, by rw [e]; rfl, q⟩
  | _, _, _, .cons .non t, h => h.elim
  | _, _, _, .cons (.int _) t, h => h.elim
  | _, _, _, .cons (.str _) t, h => h.elim
  | _, _, _, .cons (.lst _ _) t, h => h.elim
  | _, _, _, .cons (.tup _ _) t, h => h.elim
  | _, _, _, .cons (.dic _ _) t, h => h.elim
theorem asIs.get {G : Hp} : ∀ {xs : List V} {ds : List PyData} {P : List Int → Prop}, DvAll G xs ds → asIs ds P → ∃ bs, xs = bs.map V.int ∧ P bs
  | _, _, _, .nil, h => ⟨[], rfl, h⟩
  | _, _, P, .cons (.int b) t, h => by
    obtain ⟨bs, e, q⟩ := asIs.get (P := fun bs => P (b :: bs)) t h
    exact ⟨b :: bs, by rw [e]; rfl, q⟩
  | _, _, _, .cons .non t, h => h.elim
  | _, _, _, .cons (.bl _) t, h => h.elim
  | _, _, _, .cons (.str _) t, h => h.elim
  | _, _, _, .cons (.lst _ _) t, h => h.elim
  | _, _, _, .cons (.tup _ _) t, h => h.elim
  | _, _, _, .cons (.dic _ _) t, h => h.elim
theorem asSs.get {G : Hp} : ∀ {xs : List V} {ds : List PyData} {P : List Str → Prop}, DvAll G xs ds → asSs ds P → ∃ bs, xs = bs.map V.str ∧ P bs
  | _, _, _, .nil, h => ⟨[], rfl, h⟩
  | _, _, P, .cons (.str b) t, h => by
    obtain ⟨bs, e, q⟩ := asSs.get (P := fun bs => P (b :: bs)) t h
    exact ⟨b :: bs, by rw [e]; rfl, q⟩
  | _, _, _, .cons .non t, h => h.elim
  | _, _, _, .cons (.bl _) t, h => h.elim
  | _, _, _, .cons (.int _) t, h => h.elim
  | _, _, _, .cons (.lst _ _) t, h => h.elim
  | _, _, _, .cons (.tup _ _) t, h => h.elim
  | _, _, _, .cons (.dic _ _) t, h => h.elim
theorem asBs_map {P : List Bool → Prop} : ∀ {l : List Bool}, asBs (l.map .bool) P = P l := by
  intro l
  induction l generalizing P with
  | nil => rfl
  | cons b l ih => rw [List.map_cons, asBs, ih]
theorem asIs_map {P : List Int → Prop} : ∀ {l : List Int}, asIs (l.map .int) P = P l := by
  intro l
  induction l generalizing P with
  | nil => rfl
  | cons b l ih => rw [List.map_cons, asIs, ih]
theorem asSs_map {P : List Str → Prop} : ∀ {l : List Str}, asSs (l.map .str) P = P l := by
  intro l
  induction l generalizing P with
  | nil => rfl
  | cons b l ih => rw [List.map_cons, asSs, ih]
/-- the items of a list -/
def asLst : PyData → (List PyData → Prop) → Prop
  | .list ds, P => P ds
  | _, _ => False
theorem asLst.get {G : Hp} {x : V} {d : PyData} {P : List PyData → Prop} (h : Dv G x d) (q : asLst d P) : ∃ a xs ds, x = .ref a ∧ G a = some (.lst xs) ∧ DvAll G xs ds ∧ P ds := by
  cases h with
  | lst e a => exact ⟨_, _, _, rfl, e, a, q⟩
  | _ => exact False.elim q
def sSum : S1 := fun d P => asLst d fun ds => asIs ds fun ns => P (.int ns.sum)
def sAll : S1 := fun d P => asLst d fun ds => asBs ds fun bs => P (.bool (bs.all id))
def sAny : S1 := fun d P => asLst d fun ds => asBs ds fun bs => P (.bool (bs.any id))
def sMax : S1 := fun d P => asLst d fun ds => asIs ds fun ns => 0 < ns.length ∧ ∀ m, m ∈ ns → (∀ y, y ∈ ns → y ≤ m) → P (.int m)
def sMin : S1 := fun d P => asLst d fun ds => asIs ds fun ns => 0 < ns.length ∧ ∀ m, m ∈ ns → (∀ y, y ∈ ns → m ≤ y) → P (.int m)
theorem bSumP (hc : X.calm = true) : CallR X (.builtin "sum") (liftPC sSum) := fun pins s σ H xs us R I rx ⟨G, x, d, P, e, sm, v1, q, fin⟩ => by
  obtain ⟨a, ys, ds, rfl, e1, a1, q⟩ := asLst.get v1 q
  obtain ⟨ns, rfl, q⟩ := asIs.get a1 q
  exact cr_sum hc pins s σ H xs us R I rx ⟨a, ns, e, .of (sm _ _ e1), fin _ _ q fun _ => .int _⟩
theorem bAllP (hc : X.calm = true) : CallR X (.builtin "all") (liftPC sAll) := fun pins s σ H xs us R I rx ⟨G, x, d, P, e, sm, v1, q, fin⟩ => by
  obtain ⟨a, ys, ds, rfl, e1, a1, q⟩ := asLst.get v1 q
  obtain ⟨ns, rfl, q⟩ := asBs.get a1 q
  exact cr_all hc pins s σ H xs us R I rx ⟨a, ns, e, .of (sm _ _ e1), fin _ _ q fun _ => .bl _⟩
theorem bAnyP (hc : X.calm = true) : CallR X (.builtin "any") (liftPC sAny) := fun pins s σ H xs us R I rx ⟨G, x, d, P, e, sm, v1, q, fin⟩ => by
  obtain ⟨a, ys, ds, rfl, e1, a1, q⟩ := asLst.get v1 q
  obtain ⟨ns, rfl, q⟩ := asBs.get a1 q
  exact cr_any hc pins s σ H xs us R I rx ⟨a, ns, e, .of (sm _ _ e1), fin _ _ q fun _ => .bl _⟩
theorem bMaxP (hc : X.calm = true) : CallR X (.builtin "max") (liftPC sMax) := fun pins s σ H xs us R I rx ⟨G, x, d, P, e, sm, v1, q, fin⟩ => by
  obtain ⟨a, ys, ds, rfl, e1, a1, q⟩ := asLst.get v1 q
  obtain ⟨ns, rfl, q⟩ := asIs.get a1 q
  exact cr_max hc pins s σ H xs us R I rx ⟨a, ns, e, .of (sm _ _ e1), q.1, fun m m1 m2 => fin _ _ (q.2 m m1 m2) fun _ => .int _⟩
theorem bMinP (hc : X.calm = true) : CallR X (.builtin "min") (liftPC sMin) := fun pins s σ H xs us R I rx ⟨G, x, d, P, e, sm, v1, q, fin⟩ => by
  obtain ⟨a, ys, ds, rfl, e1, a1, q⟩ := asLst.get v1 q
  obtain ⟨ns, rfl, q⟩ := asIs.get a1 q
  exact cr_min hc pins s σ H xs us R I rx ⟨a, ns, e, .of (sm _ _ e1), q.1, fun m m1 m2 => fin _ _ (q.2 m m1 m2) fun _ => .int _⟩
theorem bSum (hc : X.calm = true) : CallR X (.builtin "sum") (liftC (sC sSum)) := upC (bSumP hc)
theorem bAll (hc : X.calm = true) : CallR X (.builtin "all") (liftC (sC sAll)) := upC (bAllP hc)
theorem bAny (hc : X.calm = true) : CallR X (.builtin "any") (liftC (sC sAny)) := upC (bAnyP hc)
theorem bMax (hc : X.calm = true) : CallR X (.builtin "max") (liftC (sC sMax)) := upC (bMaxP hc)
theorem bMin (hc : X.calm = true) : CallR X (.builtin "min") (liftC (sC sMin)) := upC (bMinP hc)
/-- list(x), tuple(x) -/
def vList : VL
  | [.list es], Q => Q (.own (.lst es))
  | [.tuple es], Q => Q (.own (.lst es))
  | _, _ => False
def vTuple : VL
  | [.list es], Q => Q (.v (.tuple es))
  | [.tuple es], Q => Q (.v (.tuple es))
  | _, _ => False
theorem bList : CallR X (.type "list") (liftC vList) := fun pins s σ H xs us R I rx ⟨F, G, ds, Q, B, dv, q, fin⟩ => by
  unfold vList at q
  split at q
  · cases dv with
    | cons h1 h2 =>
      cases h2
      cases h1 with
      | lst e a => exact call_list_of pins s σ H _ us R I rx ⟨_, _, rfl, .inl (.of (B.sub _ _ e)), fun l hl => fin.lst B (same_upd hl) hl upd_same a q⟩
  · cases dv with
    | cons h1 h2 =>
      cases h2
      cases h1 with
      | tup e a => exact call_list_of pins s σ H _ us R I rx ⟨_, _, rfl, .inr (.of (B.sub _ _ e)), fun l hl => fin.lst B (same_upd hl) hl upd_same a q⟩
  · exact q.elim
theorem bTuple : CallR X (.type "tuple") (liftC vTuple) := fun pins s σ H xs us R I rx ⟨F, G, ds, Q, B, dv, q, fin⟩ => by
  unfold vTuple at q
  split at q
  · cases dv with
    | cons h1 h2 =>
      cases h2
      cases h1 with
      | lst e a => exact call_tuple_of pins s σ H _ us R I rx ⟨_, _, rfl, .inl ⟨.of (B.sub _ _ e), fun l hl => fin.tup B (same_upd hl) hl upd_same a q⟩⟩
  · cases dv with
    | cons h1 h2 =>
      cases h2
      cases h1 with
      | tup e a => exact call_tuple_of pins s σ H _ us R I rx ⟨_, _, rfl, .inr ⟨.of (B.sub _ _ e), fin.v B (.tup e a) q⟩⟩
  · exact q.elim
/-- repr(x) -/
def sRepr : S1 := fun d P => (d.showable = true ∧ d.depth ≤ 60 ∧ d.shown.length ≤ sizeLine) ∧ P (.str d.shown)
theorem bRepr (hb : SysAt X.base) (hg : X.A.guards = some []) (hu : X.A.units + 64 < cLine) : CallR X (.builtin "repr") (liftC (sC sRepr)) := upC fun pins s σ H xs us R I rx ⟨G, x, d, P, e, sm, v1, q, fin⟩ =>
  call_reprS hb hg hu pins s σ H xs us R I rx ⟨x, d, e, v1.same sm, q.1.1, q.1.2.1, q.1.2.2, fin _ _ q.2 fun _ => .str _⟩
def sIntB1 : S1
  | .bool b, P => P (.int (if b then 1 else 0))
  | _, _ => False
theorem bIntB : CallR X (.type "int") (liftC (sC sIntB1)) := upC fun pins s σ H xs us R I rx ⟨G, x, d, P, e, sm, v1, q, fin⟩ => by
  cases v1 with
  | bl b => exact call_int1 pins s σ H xs us R I rx (.inr ⟨b, e, fin _ _ q fun _ => .int _⟩)
  | _ => exact False.elim q
def sStrN : S1
  | .int i, P => i.natAbs.log2 < 1920 ∧ P (.str (Str.ofString (toString i)))
  | .bool b, P => P (.str (Str.ofString (if b = true then "True" else "False")))
  | _, _ => False
theorem bStrN : CallR X (.type "str") (liftC (sC sStrN)) := upC fun pins s σ H xs us R I rx ⟨G, x, d, P, e, sm, v1, q, fin⟩ => by
  cases v1 with
  | int i => exact aStrN pins s σ H xs us R I rx (.inl ⟨i, e, q.1, fin _ _ q.2 fun _ => .str _⟩)
  | bl b => exact aStrN pins s σ H xs us R I rx (.inr ⟨b, e, fin _ _ q fun _ => .str _⟩)
  | _ => exact False.elim q
/-! ### list(range(..)), tuple(range(..)) -/
theorem dvRg {G : Hp} (a b : Int) : DvAll G (rgV a b) (wholesD a (b - a).toNat) := by
  unfold rgV wholesD
  induction List.range (b - a).toNat with
  | nil => exact .nil
  | cons i l ih => exact .cons (.int _) ih
def dRg1 (t : DTE) : Ev → (Int → Int → Ev → Prop) → Prop := fun en Q => t en fun r en1 => asD r fun d => asI d fun n => Q 0 n en1
def dRg2 (t u : DTE) : Ev → (Int → Int → Ev → Prop) → Prop := fun en Q => t en fun r en1 => asD r fun d => u en1 fun r2 en2 => asD r2 fun d2 => asI d fun m => asI d2 fun n => Q m n en2
def dLstRg (t : Ev → (Int → Int → Ev → Prop) → Prop) : DTE := fun en Q => t en fun a b en1 => RgOk a b ∧ Q (.own (.lst (wholesD a (b - a).toNat))) en1
def dTupRg (t : Ev → (Int → Int → Ev → Prop) → Prop) : DTE := fun en Q => t en fun a b en1 => RgOk a b ∧ Q (.v (.tuple (wholesD a (b - a).toNat))) en1
def liftRg (t : Ev → (Int → Int → Ev → Prop) → Prop) : L2.St → Hp → (Int → Int → Hp → Prop) → Prop := fun σ H R => ∃ (F : Fr) (en : Ev) (G : Hp) (Q : Int → Int → Ev → Prop), Rl F en σ H G ∧ t en Q ∧ ∀ (a b : Int) (H' G' : Hp) (en' : Ev), Same G G' → Rl F en' σ H' G' → Q a b en' → R a b H'
theorem prgTo {e : Expr} {te : L2.St → Hp → (Int → Int → Hp → Prop) → Prop} {t : Ev → (Int → Int → Ev → Prop) → Prop} (h : PRg X e te) (w : ∀ σ H R, liftRg t σ H R → te σ H R) : PRg X e (liftRg t) := fun pins s σ H Q I q => h pins s σ H Q I (w σ H Q q)
theorem dRgE1 {a : Expr} {ta : DTE} (hg : Gl X "range") (hm : X.mg "range" = none) (ha : DE X a ta) (na : starEach [a] X.env = (false, eval a X.env) :: starEach [] X.env := by rfl) : PRg X (.Call (.Name "range" p) [a] [] pos) (liftRg (dRg1 ta)) :=
  prgTo (prg_1 hg hm ha na) fun σ H R ⟨F, en, G, Q, rl, h, fin⟩ => lift_data rl h fun x H1 G1 d en1 s1 R1 v1 h1 => by
    cases v1 with
    | int n => exact ⟨n, rfl, fin _ _ H1 G1 en1 s1 R1 h1⟩
    | _ => exact False.elim h1
theorem dRgE2 {a b : Expr} {ta tb : DTE} (hg : Gl X "range") (hm : X.mg "range" = none) (ha : DE X a ta) (hb : DE X b tb) (na : starEach [a, b] X.env = (false, eval a X.env) :: starEach [b] X.env := by rfl)
    (nb : starEach [b] X.env = (false, eval b X.env) :: starEach [] X.env := by rfl) (hp : (backTo pos (starEach [b] X.env)).any (·.1) = false := by rfl) : PRg X (.Call (.Name "range" p) [a, b] [] pos) (liftRg (dRg2 ta tb)) :=
  prgTo (prg_2 hg hm ha hb na nb hp) fun σ H R ⟨F, en, G, Q, rl, h, fin⟩ => lift_data rl h fun x H1 G1 d en1 s1 R1 v1 h1 => lift_data R1 h1 fun y H2 G2 d2 en2 s2 R2 v2 h2 => by
    cases v1 with
    | int m =>
      cases v2 with
      | int n => exact ⟨_, _, rfl, rfl, fin _ _ H2 G2 en2 (s1.trans s2) R2 h2⟩
      | _ => exact False.elim h2
    | _ => exact False.elim h2
theorem dLstRgE {te : Ev → (Int → Int → Ev → Prop) → Prop} (hc : X.calm = true) (hg : Gl X "list") (hm : X.mg "list" = none) (he : PRg X e (liftRg te)) (na : starEach [e] X.env = (false, eval e X.env) :: starEach [] X.env := by rfl) : DE X (.Call (.Name "list" p) [e] [] pos) (dLstRg te) :=
  toE (pe_listRg hc hg hm he na) fun σ H R ⟨F, en, G, Q, rl, h, fin⟩ => ⟨F, en, G, _, rl, h, fun a b H1 G1 en1 s1 R1 ⟨ok, q⟩ => ⟨ok, fun p n => by
    have S := R1.bs.same (same_upd (o := .lst (rgV a b)) n)
    obtain ⟨R2, o2, l2⟩ := R1.res' (r := .own (.lst (wholesD a (b - a).toNat))) (x := .ref p) S ⟨p, .lst (rgV a b), rfl, n, upd_same, dvRg a b, R1.bs.sub.free n⟩
    exact fin _ _ _ _ en1 s1 R2 o2 l2 q⟩⟩
theorem dTupRgE {te : Ev → (Int → Int → Ev → Prop) → Prop} (hc : X.calm = true) (hg : Gl X "tuple") (hm : X.mg "tuple" = none) (he : PRg X e (liftRg te)) (na : starEach [e] X.env = (false, eval e X.env) :: starEach [] X.env := by rfl) : DE X (.Call (.Name "tuple" p) [e] [] pos) (dTupRg te) :=
  toE (pe_tupRg hc hg hm he na) fun σ H R ⟨F, en, G, Q, rl, h, fin⟩ => ⟨F, en, G, _, rl, h, fun a b H1 G1 en1 s1 R1 ⟨ok, q⟩ => ⟨ok, fun p n => by
    have S := R1.bs.new (same_upd (o := .tup (rgV a b)) n) n upd_same
    exact fin.v (s1.trans S.part) (R1.step S) (.tup upd_same (dvRg a b)) q⟩⟩
/-! ### a list's count -/
theorem count_eqU {x : V} : ∀ {xs : List V} {us : List Value}, Vals xs us → xs.all flatV = true → us.countP (eqU x) = xs.countP fun y => eqV y x
  | _, _, .nil, _ => rfl
  | y :: xs, u :: us, .cons r t, f => by
    rw [List.all_cons, Bool.and_eq_true] at f
    rw [List.countP_cons, List.countP_cons, eqU_of r f.1, count_eqU t f.2]
def cntD (d : PyData) (ds : List PyData) : Nat := ds.countP fun z => PyData.eqv z d
theorem cntD_of {H : Hp} {x : V} {d : PyData} (h : Dv H x d) (f : flatD d = true) : ∀ {xs : List V} {ds : List PyData}, DvAll H xs ds → ds.all flatD = true → xs.countP (fun y => eqV y x) = cntD d ds
  | _, _, .nil, _ => rfl
  | _, _, .cons a t, g => by
    simp only [List.all_cons, Bool.and_eq_true] at g
    have h2 := cntD_of h f t g.2
    unfold cntD at h2 ⊢
    rw [List.countP_cons, List.countP_cons, eqv_of a h g.1 f, h2]
def rCntF (K : PySem.W.Frag) : V → List V → Hp → VK → Prop := fun x xs H Q => ∃ (p : Addr) (ys : List V) (y : V), x = .ref p ∧ xs = [y] ∧ SqL K H p ys ∧ flatV y = true ∧ ys.all flatV = true ∧ Q (.int ((ys.countP fun z => eqV z y : Nat) : Int)) H
theorem mt_countF : MtR X "list.count" (rCntF X.K) := by
  intro pins s σ H x xs v us Q I rx rxs h
  obtain ⟨p, ys, y, rfl, rfl, hs, fy, fs, q⟩ := h
  cases rx
  obtain ⟨u, rfl, ru⟩ := rxs.one
  obtain ⟨its, rv, ⟨⟨cls, dd, data, sl⟩, n, ho, hc, hdn, hd⟩, hlen⟩ := I.list hs
  simp only at hc hd
  subst hc hd
  refine call_meets PySem.F.slot_list_count ⟨_, ho, rfl⟩ PySem.F.entry_list_count (PySem.F.args_list_count_2 _ _)
    (SeqAt.list_countAt p its.toArray n dd sl u (eqU y)) ⟨ho, fun z hz => mem_eqAt ru fy rv fs z (by simpa using hz), ?_⟩
  have ec : its.toArray.toList.countP (eqU y) = ys.countP fun z => eqV z y := count_eqU rv fs
  refine ⟨.int ((ys.countP fun z => eqV z y : Nat) : Int), H, I.tok _, ⟨s.toks, ?_⟩, q⟩
  show Value.int ((its.toArray.toList.countP (eqU y) : Nat) : Int) s.toks = _
  rw [ec]
def dCount (ta te : DTE) : DTE := fun en Q => ta en fun r en1 => asD r fun d => asLst d fun ds => te en1 fun r2 en2 => asD r2 fun d2 => (flatD d2 = true ∧ ds.all flatD = true) ∧ Q (.v (.int (cntD d2 ds : Nat))) en2
variable {apos cpos : Pos}
theorem dCountE {o : Expr} {ta te : DTE} (ho : DE X o ta) (he : DE X e te) (hbase : attributeBase o "count" X.env (eval o X.env) = eval o X.env := by rfl)
    (hfew : ((backTo cpos (starEach [e] X.env)).all (fun x => !x.1) && (backToKw cpos (keywordEach [] X.env)).all (fun x => x.1.isSome)
      && decide ([e].length + ([] : List Keyword).length + (if ([] : List Keyword).isEmpty then 0 else 1) < 30)) = true := by rfl)
    (hline : (apos.endLine == cpos.line) = true := by rfl) (hs : starEach [e] X.env = (false, eval e X.env) :: starEach [] X.env := by rfl) (hplain : (backTo cpos (starEach [] X.env)).any (·.1) = false := by rfl) :
    DE X (.Call (.Attribute o "count" apos) [e] [] cpos) (dCount ta te) :=
  toE (pe_bm PySem.F.plainAttrs_list PySem.F.slot_list_count PySem.F.type_list_count mt_countF ho (pa_cons he pa_nil hs) hbase hfew hline hs hplain) fun σ H R ⟨F, en, G, Q, rl, h, fin⟩ => lift_data rl h fun x H1 G1 d en1 s1 R1 v1 h1 => by
    obtain ⟨a, ys, ds, rfl, e1, a1, h1⟩ := asLst.get v1 h1
    refine ⟨tyL (R1.bs.sub _ _ e1), lift_data R1 h1 fun y H2 G2 d2 en2 s2 R2 v2 ⟨⟨f1, f2⟩, q⟩ => ⟨a, ys, y, rfl, rfl, .of (R2.bs.sub _ _ (s2 _ _ e1)), flat_of v2 f1, (inD_of v2 f1 (a1.same s2) f2).1, ?_⟩⟩
    rw [cntD_of v2 f1 (a1.same s2) f2]
    exact fin.v (s1.trans s2) R2 (.int _) q
/-! ### cuts from the end: x[::-1] -/
def dRev (t : DTE) : DTE := fun en Q => t en fun r en1 => asD r fun d => asLst d fun ds => Q (.own (.lst ds.reverse)) en1
def dRevT (t : DTE) : DTE := fun en Q => t en fun r en1 => asD r fun d => asTup d fun ds => Q (.v (.tuple ds.reverse)) en1
theorem dvRev {H : Hp} : ∀ {vs : List V} {ds : List PyData}, DvAll H vs ds → DvAll H vs.reverse ds.reverse
  | _, _, .nil => .nil
  | _, _, .cons h t => by
    rw [List.reverse_cons, List.reverse_cons]
    exact dvApp (dvRev t) (.cons h .nil)
theorem dRevE {te : DTE} {k : Nat} {p1 p2 p3 : Pos} (he : DE X e te) : DE X (.Subscript e (.Slice none none (some (.UnaryOp .USub (.Constant (.int 1) k p1) p2)) p3) pos) (dRev te) :=
  toE (pe_revL he) fun σ H R ⟨F, en, G, Q, rl, h, fin⟩ => lift_data rl h fun x H1 G1 d en1 s1 R1 v1 h1 => by
    obtain ⟨a, ys, ds, rfl, e1, a1, h1⟩ := asLst.get v1 h1
    refine ⟨a, ys, rfl, .of (R1.bs.sub _ _ e1), fun p n => ?_⟩
    have S := R1.bs.same (same_upd (o := .lst ys.reverse) n)
    obtain ⟨R2, o2, l2⟩ := R1.res' (r := .own (.lst ds.reverse)) (x := .ref p) S ⟨p, .lst ys.reverse, rfl, n, upd_same, dvRev a1, R1.bs.sub.free n⟩
    exact fin _ _ _ _ en1 s1 R2 o2 l2 h1
/-! ### a, b = x, y -/
def asR2 : List Rv → (Rv → Rv → Prop) → Prop
  | [r, q], P => P r q
  | _, _ => False
def dPar (i j : Nat) (t : DTA) : DTS := fun D en => t en fun rs en1 => asR2 rs fun r q => D.nx ((en1.set i r).set j q)
end
end Vf
set_option backward.eqns.nonrecursive true
namespace Vf
open PySem L2 PyProof.Rows PySem.Spec
/-! ## readings by values: sets that are sorted, pairs, a tuple of the module -/
theorem _root_.L2.Room.u5 {k : Nat} {A : Around} (r : Room k A) : A.units + 65 < cLine := by have := r.un; omega
theorem _root_.L2.Room.u64 {k : Nat} {A : Around} (r : Room k A) : A.units + 64 < cLine := by have := r.un; omega
theorem _root_.L2.Room.u1 {k : Nat} {A : Around} (r : Room k A) : A.units + 1 < cLine := by have := r.un; omega
section
variable {X : Cx}
theorem dsPar {i j : Nat} {x y : Str} {a b : Expr} {ta : DTA} {px py pt pos : Pos} {kt k2 pt2} (hc : X.calm = true) (hN : X.N.Nodup) (hi : X.N[i]? = some x) (hj : X.N[j]? = some y) (hij : i ≠ j)
    (hx : X.env.scope.names.lookup x = some .local) (hy : X.env.scope.names.lookup y = some .local) (ha : DA X [a, b] ta)
    (hw : swappedStores [.Tuple [.Name x px, .Name y py] kt pt] (.Tuple [a, b] k2 pt2) X.env = pure (some [x, y]))
    (hs : swapsWithSole [.Tuple [.Name x px, .Name y py] kt pt] (.Tuple [a, b] k2 pt2) pos.line X.env = pure false := by rfl) :
    DS X (.Assign [.Tuple [.Name x px, .Name y py] kt pt] (.Tuple [a, b] k2 pt2) pos) (dPar i j ta) :=
  toS (ps_par hc hN hi hj hij hx hy ha hw hs) fun D σ H ⟨F, en, G, D1, rl, q, fin⟩ => ⟨F, en, G, _, rl, q, fun xs H1 G1 rs en1 s1 R1 ok q => by
    unfold asR2 at q
    split at q
    · next r r2 =>
      obtain ⟨x, h1, k1, n1⟩ := ok.get (i := 0) rfl
      obtain ⟨y, h2, k2, n2⟩ := ok.get (i := 1) rfl
      have hl := ok.len
      match xs, hl with
      | [x', y'], _ =>
        simp at h1 h2
        subst h1 h2
        exact ⟨x', y', rfl, fin.nx _ _ H1 G1 s1 ((R1.asg i k1 fun c e => absurd e (n1 c)).asg j k2 fun c e => absurd e (n2 c)) q⟩
    · exact q.elim⟩
/-! ### sorted(set(whole numbers)) -/
def vSetI : List Int → (List Int → Prop) → Prop := fun ns P => (ns.length + 1 < scanBound ∧ ∀ x ∈ ns, -3 ≤ x ∧ x < 16) ∧ ∀ ms : List Int, ms.Pairwise (· < ·) → (∀ k, k ∈ ms ↔ k ∈ ns) → P ms
def dSortedSetI (t : DTE) : DTE := fun en Q => t en fun r en1 => asD r fun d => asLst d fun ds => asIs ds fun ns => vSetI ns fun ms => Q (.own (.lst (ms.map .int))) en1
theorem dSortedSetIE {e : Expr} {te : DTE} {p p2 pos pos2 : Pos} (hc : X.calm = true) (hg : Gl X "sorted") (hm : X.mg "sorted" = none) (hg2 : Gl X "set") (hm2 : X.mg "set" = none) (he : DE X e te)
    (h1 : starEach [.Call (.Name "set" p2) [e] [] pos2] X.env = (false, eval (.Call (.Name "set" p2) [e] [] pos2) X.env) :: starEach [] X.env := by rfl) (h2 : (backTo pos (starEach [] X.env)).any (·.1) = false := by rfl)
    (h3 : starEach [e] X.env = (false, eval e X.env) :: starEach [] X.env := by rfl) (h4 : (backTo pos2 (starEach [] X.env)).any (·.1) = false := by rfl) :
    DE X (.Call (.Name "sorted" p) [.Call (.Name "set" p2) [e] [] pos2] [] pos) (dSortedSetI te) :=
  toE (pe_callB (cr_sortedSet hc) hg hm (by decide +kernel) (pa_cons (pe_callTy (cr_setI hc) hg2 hm2 (by decide +kernel) (pa_cons he pa_nil h3) (by decide) (by decide) h3 h4) pa_nil h1) (by decide) (by decide) h1 h2) fun σ H R ⟨F, en, G, Q, rl, h, fin⟩ => lift_data rl h fun x H1 G1 d en1 s1 R1 v1 q => by
    obtain ⟨a, ys, ds, rfl, e1, a1, q⟩ := asLst.get v1 q
    obtain ⟨ns, rfl, ⟨⟨hb, hr⟩, q⟩⟩ := asIs.get a1 q
    refine ⟨a, ns, rfl, .of (R1.bs.sub _ _ e1), hb, hr, fun p n np n19 => ⟨p, _, n, rfl, upd_same, by omega, fun ms q0 asc mem _ nq => ?_⟩⟩
    have S1 := same_upd (o := SetO X.w p (fun j => decide (j ∈ ns)) n) np
    have S := R1.bs.same (S1.trans (same_upd (o := .lst (ms.map V.int)) nq))
    have dm : ∀ G : Hp, ∀ l : List Int, DvAll G (l.map V.int) (l.map PyData.int) := fun G l => by
      induction l with
      | nil => exact .nil
      | cons i l ih => exact .cons (.int i) ih
    obtain ⟨R2, o2, l2⟩ := R1.res' (r := .own (.lst (ms.map .int))) (x := .ref q0) S ⟨q0, .lst (ms.map V.int), rfl, S1.free nq, upd_same, dm _ _, R1.bs.sub.free (S1.free nq)⟩
    exact fin _ _ _ _ en1 s1 R2 o2 l2 (q ms asc fun k => by rw [mem k]; simp)
/-! ### sorted(set(tuples of whole numbers)) -/
def tupI (ks : List Int) : PyData := .tuple (ks.map .int)
def dSortedSetT (t : DTE) : DTE := fun en Q => t en fun r en1 => asD r fun d => asLst d fun ds => ∃ kss : List (List Int), ds = kss.map tupI ∧ kss.length < 64 ∧ (∀ k ∈ kss, k ≠ []) ∧
  ∀ ms : List (List Int), ms.Pairwise (fun k l => lexI k l = true) → ms.length < 64 → (∀ k, k ∈ ms ↔ k ∈ kss) → Q (.own (.lst (ms.map tupI))) en1
theorem tups_back {K : PySem.W.Frag} {G : Hp} : ∀ {ys : List V} {kss : List (List Int)}, DvAll G ys (kss.map tupI) → ∃ ks : List (Addr × List Int), ys = ks.map (fun p => V.ref p.1) ∧ ks.map (·.2) = kss ∧ ∀ p ∈ ks, G p.1 = some (.tup (p.2.map V.int))
  | _, [], .nil => ⟨[], rfl, rfl, fun p hp => nomatch hp⟩
  | _, k :: kss, .cons v t => by
    obtain ⟨ks, e1, e2, h⟩ := tups_back (K := K) t
    cases v with
    | @tup a xs _ ea va =>
      have ex : xs = k.map V.int := by
        clear h e1 e2 t ea
        induction k generalizing xs with
        | nil => cases va; rfl
        | cons i k ih =>
          cases va with
          | cons v va => cases v; rw [ih va]; rfl
      subst ex
      refine ⟨(a, k) :: ks, by rw [e1]; rfl, by rw [List.map_cons, e2], fun p hp => ?_⟩
      rcases List.mem_cons.mp hp with rfl | hp
      · exact ea
      · exact h p hp
theorem ints_dv {G : Hp} : ∀ k : List Int, DvAll G (k.map V.int) (k.map PyData.int)
  | [] => .nil
  | i :: k => .cons (.int i) (ints_dv k)
theorem tups_dv {G : Hp} : ∀ {ks : List (Addr × List Int)}, (∀ p ∈ ks, G p.1 = some (.tup (p.2.map V.int))) → DvAll G (ks.map fun p => V.ref p.1) ((ks.map (·.2)).map tupI)
  | [], _ => .nil
  | p :: ks, h => .cons (.tup (h p List.mem_cons_self) (ints_dv p.2)) (tups_dv fun q hq => h q (List.mem_cons_of_mem _ hq))
theorem dSortedSetTE {e : Expr} {te : DTE} {p p2 pos pos2 : Pos} (hc : X.calm = true) (hu : X.A.units + 64 < cLine) (hg : Gl X "sorted") (hm : X.mg "sorted" = none) (hg2 : Gl X "set") (hm2 : X.mg "set" = none) (he : DE X e te)
    (h1 : starEach [.Call (.Name "set" p2) [e] [] pos2] X.env = (false, eval (.Call (.Name "set" p2) [e] [] pos2) X.env) :: starEach [] X.env := by rfl) (h2 : (backTo pos (starEach [] X.env)).any (·.1) = false := by rfl)
    (h3 : starEach [e] X.env = (false, eval e X.env) :: starEach [] X.env := by rfl) (h4 : (backTo pos2 (starEach [] X.env)).any (·.1) = false := by rfl) :
    DE X (.Call (.Name "sorted" p) [.Call (.Name "set" p2) [e] [] pos2] [] pos) (dSortedSetT te) :=
  toE (pe_callB (cr_sortedTG hc) hg hm (by decide +kernel) (pa_cons (pe_callTy (cr_setOfT hc hu) hg2 hm2 (by decide +kernel) (pa_cons he pa_nil h3) (by decide) (by decide) h3 h4) pa_nil h1) (by decide) (by decide) h1 h2) fun σ H R ⟨F, en, G, Q, rl, h, fin⟩ => lift_data rl h fun x H1 G1 d en1 s1 R1 v1 q => by
    obtain ⟨a, ys, ds, rfl, e1, a1, kss, rfl, few, ne, q⟩ := asLst.get v1 q
    obtain ⟨ks, rfl, rfl, hk⟩ := tups_back (K := X.K) a1
    refine ⟨a, ks, rfl, .of (R1.bs.sub _ _ e1), fun p hp => .of (R1.bs.sub _ _ (hk p hp)), by rwa [List.length_map] at few, fun b L hb sub all => ⟨b, L, rfl, upd_same, fun p hp => ⟨.of (same_upd hb _ _ (R1.bs.sub _ _ (hk p (sub p hp)))), ne _ (List.mem_map.mpr ⟨p, sub p hp, rfl⟩)⟩, fun M q0 msub mall rise mfew nq => ?_⟩⟩
    have S1 := same_upd (o := SetTO X.prog X.w b L) hb
    have S := R1.bs.same (S1.trans (same_upd (o := .lst (M.map fun q : Addr × List Int => V.ref q.1)) nq))
    obtain ⟨R2, o2, l2⟩ := R1.res' (r := .own (.lst ((M.map fun q : Addr × List Int => q.2).map tupI))) (x := .ref q0) S ⟨q0, .lst (M.map fun q : Addr × List Int => V.ref q.1), rfl, S1.free nq, upd_same, tups_dv fun p hp => hk p (sub p (msub p hp)), R1.bs.sub.free (S1.free nq)⟩
    refine fin _ _ _ _ en1 s1 R2 o2 l2 (q (M.map (·.2)) rise (by rwa [List.length_map]) fun k => ⟨fun h => ?_, fun h => ?_⟩)
    · obtain ⟨p, hp, rfl⟩ := List.mem_map.mp h
      exact List.mem_map.mpr ⟨p, sub p (msub p hp), rfl⟩
    · obtain ⟨p, hp, rfl⟩ := List.mem_map.mp h
      obtain ⟨p2, hp2, e2⟩ := List.mem_map.mp (all p hp)
      rw [← e2]
      exact mall p2 hp2
/-! ### in a tuple of texts of the module -/
def thingD : PyData → Bool
  | .dict _ => true
  | _ => true
def amongP (l : List Str) : PyData → Bool
  | .str s => decide (s ∈ l)
  | _ => false
theorem among_of {G : Hp} {x : V} {d : PyData} (l : List Str) (h : Dv G x d) : among l x = amongP l d := by
  cases h <;> rfl
def dInG (neg : Bool) (l : List Str) (t : DTE) : DTE := fun en Q => t en fun r en1 => asD r fun d => Q (.v (.bool (neg ^^ amongP l d))) en1
variable {e b : Expr} {te : DTE} {pos : Pos}
theorem lift_inG {neg : Bool} {l : List Str} {p : Addr} {σ : L2.St} {H : Hp} {R : VK} (hp : ∀ H, SqT X.K H p (l.map V.str)) (h : lift (dInG neg l te) σ H R) : tOp (rInT X.K neg) (lift te) (tC (.ref p)) σ H R := by
  obtain ⟨F, en, G, Q, rl, h, fin⟩ := h
  refine lift_data rl h fun x H1 G1 d en1 s1 R1 v1 q => ⟨p, l, rfl, hp H1, (v1.same R1.bs.sub).thing, ?_⟩
  rw [among_of l v1]
  exact fin.v s1 R1 (.bl _) q
theorem dInGE {op : CmpOp} {neg : Bool} {l : List Str} {p : Addr} (ho : OpR X (compareOp op) (rInT X.K neg)) (hp : ∀ H, SqT X.K H p (l.map V.str)) (he : DE X e te) (hb : PE X b (tC (.ref p))) (hm : behindInMarks op b = false) : DE X (.Compare e [op] [b] pos) (dInG neg l te) :=
  toE (pe_cmpR ho he hb hm) fun _ _ _ => lift_inG hp
theorem dtInGE {op : CmpOp} {neg : Bool} {l : List Str} {p : Addr} (ho : OpR X (compareOp op) (rInT X.K neg)) (hp : ∀ H, SqT X.K H p (l.map V.str)) (he : DE X e te) (hb : PE X b (tC (.ref p))) (hm : behindInMarks op b = false) : DT X (.Compare e [op] [b] pos) (dTest (dInG neg l te)) :=
  toT (pt_cmpR ho he hb hm) fun σ H R ⟨F, en, G, Q, rl, h, fin⟩ => lift_inG hp (lift_data rl h fun x H1 G1 d en1 s1 R1 v1 h1 => by
    cases v1 with
    | bl b => exact ⟨b, rfl, fin b H1 G1 en1 s1 R1 h1⟩
    | _ => exact False.elim h1)
end
end Vf
set_option backward.eqns.nonrecursive true
namespace Vf
open PySem L2 PyProof.Rows PySem.Spec
/-! ## readings by values: enumerate, zip, reversed -/
def enumD (ds : List PyData) : List PyData := ds.mapIdx fun i d => .tuple [.int (i : Int), d]
def zip2D (as bs : List PyData) : List PyData := List.zipWith (fun x y => .tuple [x, y]) as bs
theorem enumD_len (ds : List PyData) : (enumD ds).length = ds.length := by simp [enumD]
theorem enumD_at {ds : List PyData} {i : Nat} : (enumD ds)[i]? = (ds[i]?).map fun d => .tuple [.int (i : Int), d] := by
  unfold enumD
  rw [List.getElem?_mapIdx]
theorem zip2D_at {as bs : List PyData} {i : Nat} {x y : PyData} (h1 : as[i]? = some x) (h2 : bs[i]? = some y) : (zip2D as bs)[i]? = some (.tuple [x, y]) := by
  unfold zip2D
  rw [List.getElem?_zipWith, h1, h2]
/-- a new pair at T -/
theorem pair_new {F : Fr} {H G : Hp} {T : Addr} {x y : V} {d e : PyData} (B : Bs F H G) (n : H T = none) (hx : Dv G x d) (hy : Dv G y e) : ∃ G2, Stp F H G (upd H T (.tup [x, y])) G2 ∧ Dv G2 (.ref T) (.tuple [d, e]) :=
  let S := B.new (same_upd n) n upd_same
  ⟨_, S, .tup upd_same (.cons (hx.same S.part) (.cons (hy.same S.part) .nil))⟩
section
variable {F : Fr} {K : PySem.W.Frag} {a b : Addr} {xs ys : List V} {ds es : List PyData} {G : Hp}
theorem step_enumL (e : G a = some (.lst xs)) (h : DvAll G xs ds) : DStep F (Ite K a) (enumD ds) G where
  stop := fun H s => ⟨xs, .of (s _ _ e), by rw [enumD_len, h.len]; exact Nat.le_refl _⟩
  go := fun i H hi s => by
    rw [enumD_len] at hi
    exact ⟨xs, xs[i]'(by rw [h.len]; exact hi), .of (s _ _ e), by simp [h.len, hi]⟩
  yld := fun i H G1 x H' hi B s y => by
    obtain ⟨T, v, rfl, n, rfl, f⟩ := y
    obtain ⟨d, e1, dv⟩ := dvAt h (f xs (.of (B.sub _ _ (s _ _ e))))
    obtain ⟨G2, S, dv2⟩ := pair_new B n (.int (i : Int)) (dv.same s)
    exact ⟨G2, _, S, dv2, by rw [enumD_at, e1]; rfl⟩
theorem step_enumT (e : G a = some (.tup xs)) (h : DvAll G xs ds) : DStep F (IteT K a) (enumD ds) G where
  stop := fun H s => ⟨xs, .of (s _ _ e), by rw [enumD_len, h.len]⟩
  go := fun i H hi s => by
    rw [enumD_len] at hi
    exact ⟨xs, xs[i]'(by rw [h.len]; exact hi), .of (s _ _ e), by simp [h.len, hi]⟩
  yld := fun i H G1 x H' hi B s y => by
    obtain ⟨T, v, rfl, n, rfl, f⟩ := y
    obtain ⟨d, e1, dv⟩ := dvAt h (f xs (.of (B.sub _ _ (s _ _ e))))
    obtain ⟨G2, S, dv2⟩ := pair_new B n (.int (i : Int)) (dv.same s)
    exact ⟨G2, _, S, dv2, by rw [enumD_at, e1]; rfl⟩
theorem zip2D_len : (zip2D ds es).length = min ds.length es.length := by simp [zip2D]
theorem step_zipL (e : G a = some (.lst xs)) (h : DvAll G xs ds) (e2 : G b = some (.lst ys)) (h2 : DvAll G ys es) : DStep F (Itz K a b) (zip2D ds es) G where
  stop := fun H s => ⟨xs, ys, .of (s _ _ e), .of (s _ _ e2), by rw [zip2D_len, h.len, h2.len]; omega⟩
  go := fun i H hi s => by
    rw [zip2D_len] at hi
    exact ⟨xs, ys, xs[i]'(by rw [h.len]; omega), ys[i]'(by rw [h2.len]; omega), .of (s _ _ e), .of (s _ _ e2), List.getElem?_eq_getElem _, List.getElem?_eq_getElem _⟩
  yld := fun i H G1 x H' hi B s y => by
    obtain ⟨T, v, v2, rfl, n, rfl, f, f2⟩ := y
    obtain ⟨d, e3, dv⟩ := dvAt h (f xs (.of (B.sub _ _ (s _ _ e))))
    obtain ⟨d2, e4, dv2⟩ := dvAt h2 (f2 ys (.of (B.sub _ _ (s _ _ e2))))
    obtain ⟨G2, S, dv3⟩ := pair_new B n (dv.same s) (dv2.same s)
    exact ⟨G2, _, S, dv3, zip2D_at e3 e4⟩
theorem step_zipT (e : G a = some (.tup xs)) (h : DvAll G xs ds) (e2 : G b = some (.tup ys)) (h2 : DvAll G ys es) : DStep F (RZ.ItzT K a b) (zip2D ds es) G where
  stop := fun H s => ⟨xs, ys, .of (s _ _ e), .of (s _ _ e2), by rw [zip2D_len, h.len, h2.len]; omega⟩
  go := fun i H hi s => by
    rw [zip2D_len] at hi
    exact ⟨xs, ys, xs[i]'(by rw [h.len]; omega), ys[i]'(by rw [h2.len]; omega), .of (s _ _ e), .of (s _ _ e2), List.getElem?_eq_getElem _, List.getElem?_eq_getElem _⟩
  yld := fun i H G1 x H' hi B s y => by
    obtain ⟨T, v, v2, rfl, n, rfl, f, f2⟩ := y
    obtain ⟨d, e3, dv⟩ := dvAt h (f xs (.of (B.sub _ _ (s _ _ e))))
    obtain ⟨d2, e4, dv2⟩ := dvAt h2 (f2 ys (.of (B.sub _ _ (s _ _ e2))))
    obtain ⟨G2, S, dv3⟩ := pair_new B n (dv.same s) (dv2.same s)
    exact ⟨G2, _, S, dv3, zip2D_at e3 e4⟩
end
def asL1 : List PyData → (List PyData → Prop) → Prop
  | [.list ds], P => P ds
  | [.tuple ds], P => P ds
  | _, _ => False
def asL2 : List PyData → (List PyData → List PyData → Prop) → Prop
  | [.list ds, .list es], P => P ds es
  | [.tuple ds, .tuple es], P => P ds es
  | _, _ => False
def dEnum (t : DTA) : DTI := fun en Q => t en fun rs en1 => allD rs fun ds => asL1 ds fun xs => Q (enumD xs) en1
def dZip (t : DTA) : DTI := fun en Q => t en fun rs en1 => allD rs fun ds => asL2 ds fun xs ys => Q (zip2D xs ys) en1
section
variable {X : Cx} {e e2 : Expr} {ta : DTA} {p pos tpos : Pos} {elts : List Expr} {kk : Nat}
theorem diEnumerate (hg : Gl X "enumerate") (hm : X.mg "enumerate" = none) (ha : DA X [e] ta) (hs : starEach [e] X.env = [(false, eval e X.env)] := by rfl) : DI X (.Tuple elts kk tpos) (.Call (.Name "enumerate" p) [e] [] pos) (dEnum ta) :=
  toI (pi_enumA hg hm ha hs) fun σ H R ⟨F, en, G, Q, rl, h, fin⟩ => liftA_data rl h fun xs H1 G1 ds en1 s1 R1 dv q => by
    unfold asL1 at q
    split at q
    · cases dv with
      | cons h1 h2 =>
        cases h2
        cases h1 with
        | lst e a => exact ⟨_, _, rfl, .inl ⟨.of (R1.bs.sub _ _ e), fin _ H1 G1 _ en1 s1 R1 (step_enumL e a) q⟩⟩
    · cases dv with
      | cons h1 h2 =>
        cases h2
        cases h1 with
        | tup e a => exact ⟨_, _, rfl, .inr ⟨.of (R1.bs.sub _ _ e), fin _ H1 G1 _ en1 s1 R1 (step_enumT e a) q⟩⟩
    · exact q.elim
theorem diZip (hg : Gl X "zip") (hm : X.mg "zip" = none) (ha : DA X [e, e2] ta) (hs : starEach [e, e2] X.env = (false, eval e X.env) :: starEach [e2] X.env := by rfl) (hpl : (backTo pos (starEach [e2] X.env)).any (·.1) = false := by rfl) :
    DI X (.Tuple elts kk tpos) (.Call (.Name "zip" p) [e, e2] [] pos) (dZip ta) :=
  toI (RZ.pi_zipA hg hm ha hs hpl) fun σ H R ⟨F, en, G, Q, rl, h, fin⟩ => liftA_data rl h fun xs H1 G1 ds en1 s1 R1 dv q => by
    unfold asL2 at q
    split at q
    · cases dv with
      | cons h1 h2 =>
        cases h2 with
        | cons h2 h3 =>
          cases h3
          cases h1 with
          | lst e a =>
            cases h2 with
            | lst e2 a2 => exact ⟨_, _, _, _, rfl, .inl ⟨.of (R1.bs.sub _ _ e), .of (R1.bs.sub _ _ e2), fin _ H1 G1 _ en1 s1 R1 (step_zipL e a e2 a2) q⟩⟩
    · cases dv with
      | cons h1 h2 =>
        cases h2 with
        | cons h2 h3 =>
          cases h3
          cases h1 with
          | tup e a =>
            cases h2 with
            | tup e2 a2 => exact ⟨_, _, _, _, rfl, .inr ⟨.of (R1.bs.sub _ _ e), .of (R1.bs.sub _ _ e2), fin _ H1 G1 _ en1 s1 R1 (step_zipT e a e2 a2) q⟩⟩
    · exact q.elim
end
/-! ### reversed -/
theorem step_revL {F : Fr} {K : PySem.W.Frag} {a : Addr} {xs : List V} {ds : List PyData} {G : Hp} (e : G a = some (.lst xs)) (h : DvAll G xs ds) : DStep F (Itv K a xs.length) ds.reverse G where
  stop := fun H s => by
    show xs.length ≤ ds.reverse.length
    rw [List.length_reverse, h.len]
    exact Nat.le_refl _
  go := fun i H hi s => by
    rw [List.length_reverse, ← h.len] at hi
    exact ⟨hi, xs, xs[xs.length - 1 - i]'(by omega), .of (s _ _ e), List.getElem?_eq_getElem _⟩
  yld := fun i H G1 x H' hi B s y => by
    obtain ⟨rfl, f⟩ := y
    obtain ⟨d, e1, dv⟩ := dvAt h (f xs (.of (B.sub _ _ (s _ _ e))))
    rw [List.length_reverse] at hi
    exact ⟨G1, d, B.refl, dv.same s, by rw [List.getElem?_reverse hi, ← h.len]; exact e1⟩
theorem step_revT {F : Fr} {K : PySem.W.Frag} {a : Addr} {xs : List V} {ds : List PyData} {G : Hp} (e : G a = some (.tup xs)) (h : DvAll G xs ds) : DStep F (RT.ItvT K a xs.length) ds.reverse G where
  stop := fun H s => by
    show xs.length ≤ ds.reverse.length
    rw [List.length_reverse, h.len]
    exact Nat.le_refl _
  go := fun i H hi s => by
    rw [List.length_reverse, ← h.len] at hi
    exact ⟨hi, xs, xs[xs.length - 1 - i]'(by omega), .of (s _ _ e), List.getElem?_eq_getElem _⟩
  yld := fun i H G1 x H' hi B s y => by
    obtain ⟨rfl, f⟩ := y
    obtain ⟨d, e1, dv⟩ := dvAt h (f xs (.of (B.sub _ _ (s _ _ e))))
    rw [List.length_reverse] at hi
    exact ⟨G1, d, B.refl, dv.same s, by rw [List.getElem?_reverse hi, ← h.len]; exact e1⟩
def dRevW (t : DTE) : DTI := fun en Q => t en fun r en1 => asD r fun d => asTL d fun ds => Q ds.reverse en1
section
variable {X : Cx} {tg e : Expr} {te : DTE} {p pos : Pos}
theorem diReversed (hg : Gl X "reversed") (hm : X.mg "reversed" = none) (he : DE X e te) (hs : starEach [e] X.env = (false, eval e X.env) :: starEach [] X.env := by rfl) : DI X tg (.Call (.Name "reversed" p) [e] [] pos) (dRevW te) :=
  toI (RT.pi_revA hg hm he hs) fun σ H R ⟨F, en, G, Q, rl, h, fin⟩ => lift_data rl h fun x H1 G1 d en1 s1 R1 dv q => by
    cases dv with
    | lst e a => exact ⟨_, _, rfl, .inl ⟨.of (R1.bs.sub _ _ e), fin _ H1 G1 _ en1 s1 R1 (step_revL e a) q⟩⟩
    | tup e a => exact ⟨_, _, rfl, .inr ⟨.of (R1.bs.sub _ _ e), fin _ H1 G1 _ en1 s1 R1 (step_revT e a) q⟩⟩
    | _ => exact False.elim q
end
/-! ### isinstance(x, C), C of the built-in kinds -/
def kindOf : PyData → String
  | .none => "NoneType"
  | .bool _ => "bool"
  | .int _ => "int"
  | .str _ => "str"
  | .list _ => "list"
  | .tuple _ => "tuple"
  | _ => "dict"
theorem dv_kind {K : PySem.W.Frag} {H : Hp} {x : V} {d : PyData} (h : Dv H x d) : TyX K H x (.type (kindOf d)) := by
  cases h with
  | non => exact .base .non
  | bl b => exact .base (.bl b)
  | int n => exact .base (.int n)
  | str s => exact .base (.str s)
  | lst e _ => exact .base (.lst e)
  | tup e _ => exact .base (.tup e)
  | dic e _ => exact .base (.dK e)
def isiInt : PyData → Bool
  | .int _ => true
  | .bool _ => true
  | _ => false
def isiBool : PyData → Bool
  | .bool _ => true
  | _ => false
def isiStr : PyData → Bool
  | .str _ => true
  | _ => false
def isiTup : PyData → Bool
  | .tuple _ => true
  | _ => false
def isiLst : PyData → Bool
  | .list _ => true
  | _ => false
def dIsi (f : PyData → Bool) (t : DTE) : DTE := fun en Q => t en fun r en1 => asD r fun d => Q (.v (.bool (f d))) en1
def IsiOk (T : String) (f : PyData → Bool) : Prop := ∀ {G : Hp} {x : V} {d : PyData}, Dv G x d → kitB (kindOf d) T = some (f d)
theorem isi_int : IsiOk "int" isiInt := fun h => by cases h <;> (simp only [kindOf, isiInt]; decide +kernel)
theorem isi_bool : IsiOk "bool" isiBool := fun h => by cases h <;> (simp only [kindOf, isiBool]; decide +kernel)
theorem isi_str : IsiOk "str" isiStr := fun h => by cases h <;> (simp only [kindOf, isiStr]; decide +kernel)
theorem isi_tuple : IsiOk "tuple" isiTup := fun h => by cases h <;> (simp only [kindOf, isiTup]; decide +kernel)
theorem isi_list : IsiOk "list" isiLst := fun h => by cases h <;> (simp only [kindOf, isiLst]; decide +kernel)
section
variable {X : Cx} {e c : Expr} {te : DTE} {p pos : Pos} {T : String} {f : PyData → Bool}
theorem dIsiE (hf : IsiOk T f) (hg : Gl X "isinstance") (hm : X.mg "isinstance" = none) (he : DE X e te) (hc : PE X c (tC (.ty T)))
    (h1 : starEach [e, c] X.env = (false, eval e X.env) :: starEach [c] X.env := by rfl) (h2 : (backTo pos (starEach [c] X.env)).any (·.1) = false := by rfl) (h3 : starEach [c] X.env = (false, eval c X.env) :: starEach [] X.env := by rfl) :
    DE X (.Call (.Name "isinstance" p) [e, c] [] pos) (dIsi f te) :=
  toE (pe_callB (aIsi rfl) hg hm (by decide +kernel) (pa_cons he (pa_cons hc pa_nil h3) h1) (by decide) (by decide) h1 h2) fun σ H R ⟨F, en, G, Q, rl, h, fin⟩ => lift_data rl h fun x H1 G1 d en1 s1 R1 v1 q =>
    ⟨_, _, _, _, _, rfl, .ty T, dv_kind (v1.same R1.bs.sub), kit_ty (hf v1), fin.v s1 R1 (.bl _) q⟩
end
/-! ### a op= b of whole numbers -/
section
variable {X : Cx}
theorem ip_of {op : Operator} {g : Int → Int → Int} (h : PIp X op (ipI g)) : PIp X op (liftR2 (s2 (sInt yesC g))) := fun pins s σ H x y v u R I rx ry ⟨F, G, dx, dy, Q, B, v1, v2, q, fin⟩ => by
  unfold s2 sInt at q
  split at q
  · cases v1
    cases v2
    exact h pins s σ H _ _ v u R I rx ry ⟨_, _, rfl, rfl, fin (.int _) H G (.v (.int _)) B.refl (Dv.int (H := G) _) q.2⟩
  · exact q.elim
theorem ipAdd : PIp X .Add (liftR2 (s2 (sInt yesC fun i j => i + j))) := ip_of ip_add
theorem ipSub : PIp X .Sub (liftR2 (s2 (sInt yesC fun i j => i - j))) := ip_of ip_sub
end
/-! ### is -/
section
variable {X : Cx}
theorem pIs : OpR X (compareOp .Is) (liftP2 (isD false)) := fun pins s σ H x y v u R I rx ry ⟨G, dx, dy, P, sm, v1, v2, q, fin⟩ => by
  unfold isD at q
  split at q
  · cases v1
    cases v2
    exact op_is_bl pins s σ H _ _ v u R I rx ry ⟨_, _, rfl, rfl, fin _ _ q fun _ => by rw [Bool.false_xor]; exact .bl _⟩
  · cases v2
    refine op_isN pins s σ H _ _ v u R I rx ry ⟨rfl, fin _ _ q fun _ => ?_⟩
    rw [none_of v1, Bool.false_xor]
    exact .bl _
  · exact q.elim
theorem oIs : OpR X (compareOp .Is) (liftR2 (s2 (isD false))) := up2 pIs
end
theorem isiInt_n : isiInt .none = false := rfl
theorem isiInt_b {a : Bool} : isiInt (.bool a) = true := rfl
theorem isiInt_i {a : Int} : isiInt (.int a) = true := rfl
theorem isiInt_s {a : Str} : isiInt (.str a) = false := rfl
theorem isiInt_l {a : List PyData} : isiInt (.list a) = false := rfl
theorem isiInt_t {a : List PyData} : isiInt (.tuple a) = false := rfl
theorem isiBool_n : isiBool .none = false := rfl
theorem isiBool_b {a : Bool} : isiBool (.bool a) = true := rfl
theorem isiBool_i {a : Int} : isiBool (.int a) = false := rfl
theorem isiBool_s {a : Str} : isiBool (.str a) = false := rfl
theorem isiBool_l {a : List PyData} : isiBool (.list a) = false := rfl
theorem isiBool_t {a : List PyData} : isiBool (.tuple a) = false := rfl
theorem isiStr_n : isiStr .none = false := rfl
theorem isiStr_b {a : Bool} : isiStr (.bool a) = false := rfl
theorem isiStr_i {a : Int} : isiStr (.int a) = false := rfl
theorem isiStr_s {a : Str} : isiStr (.str a) = true := rfl
theorem isiStr_l {a : List PyData} : isiStr (.list a) = false := rfl
theorem isiStr_t {a : List PyData} : isiStr (.tuple a) = false := rfl
theorem isiTup_n : isiTup .none = false := rfl
theorem isiTup_b {a : Bool} : isiTup (.bool a) = false := rfl
theorem isiTup_i {a : Int} : isiTup (.int a) = false := rfl
theorem isiTup_s {a : Str} : isiTup (.str a) = false := rfl
theorem isiTup_l {a : List PyData} : isiTup (.list a) = false := rfl
theorem isiTup_t {a : List PyData} : isiTup (.tuple a) = true := rfl
theorem isiLst_n : isiLst .none = false := rfl
theorem isiLst_b {a : Bool} : isiLst (.bool a) = false := rfl
theorem isiLst_i {a : Int} : isiLst (.int a) = false := rfl
theorem isiLst_s {a : Str} : isiLst (.str a) = false := rfl
theorem isiLst_l {a : List PyData} : isiLst (.list a) = true := rfl
theorem isiLst_t {a : List PyData} : isiLst (.tuple a) = false := rfl
/-! ### list(zip(*rows)), of one row -/
/-- a tuple that stands, taken into the part -/
theorem Bs.tupAt2 {F : Fr} {H G H' : Hp} {r : Addr} {xs : List V} (B : Bs F H G) (s : Same H H') (e : H' r = some (.tup xs)) : ∃ G', Stp F H G H' G' ∧ G' r = some (.tup xs) ∧ ∀ b, b ≠ r → G' b = G b := by
  have S := B.same s
  cases eg : G r with
  | some o =>
    have := S.sub _ _ eg
    rw [e] at this
    cases this
    exact ⟨G, S, eg, fun _ _ => rfl⟩
  | none =>
    have nk : ¬ F.dk r := fun d => by
      have := S.dok
      obtain ⟨dc, H0, G0⟩ := F
      cases dc with
      | none => exact d
      | some p =>
        obtain ⟨_, ⟨t, n, own⟩, ⟨ns, cells, _⟩⟩ := (show Dk H' p.1 p.2 from this)
        rcases (show r = p.1 ∨ r = p.2 from d) with rfl | rfl
        · rw [own] at e; cases e
        · rw [cells] at e; cases e
    refine ⟨upd G r (.tup xs), ⟨S.dok, S.big, fun b u eb => ?_, fun a d => ?_, same_upd eg, fun b o h1 h2 h3 => ?_⟩, upd_same, fun b hb => upd_ne hb⟩
    · by_cases hb : b = r
      · subst hb
        rw [upd_same] at eb
        rw [e]
        exact eb
      · rw [upd_ne hb] at eb
        exact S.sub _ _ eb
    · rw [upd_ne fun z => nk (by rw [← z]; exact d)]
      exact S.nd a d
    · rw [upd_ne fun z => by
        rw [z] at h1
        have := s _ _ h1
        rw [e] at this
        exact h2 _ (Option.some.inj this).symm]
      exact h3
theorem Bs.onesAt {F : Fr} {H' : Hp} : ∀ (L : List (Addr × V)) {H G : Hp}, Bs F H G → Same H H' → (∀ p ∈ L, H' p.1 = some (.tup [p.2])) → ∃ G', Stp F H G H' G' ∧ (∀ p ∈ L, G' p.1 = some (.tup [p.2])) ∧ ∀ b, (∀ p ∈ L, b ≠ p.1) → G' b = G b
  | [], H, G, B, s, _ => ⟨G, B.same s, fun p h => (by simp at h), fun _ _ => rfl⟩
  | p :: L, H, G, B, s, h => by
    obtain ⟨G1, S1, e1, o1⟩ := B.tupAt2 s (h p List.mem_cons_self)
    obtain ⟨G2, S2, e2, o2⟩ := Bs.onesAt L S1.bs (Same.refl H') fun q hq => h q (List.mem_cons_of_mem _ hq)
    refine ⟨G2, Stp.trans B.dok S1 S2, fun q hq => ?_, fun b nb => ?_⟩
    · rcases List.mem_cons.mp hq with rfl | hq
      · exact S2.part _ _ e1
      · exact e2 q hq
    · rw [o2 b fun q hq => nb q (List.mem_cons_of_mem _ hq), o1 b (nb p List.mem_cons_self)]
def dLZ (t : DTE) : DTE := fun en Q => t en fun r en1 => asD r fun d => asTL d fun rows => ∃ (row : PyData) (xs : List PyData), rows = [row] ∧ (row = .list xs ∨ row = .tuple xs) ∧ Q (.own (.lst (xs.map fun x => .tuple [x]))) en1
theorem ones_dv {G : Hp} : ∀ {Ts : List Addr} {xs : List V} {ds : List PyData}, Ts.length = xs.length → DvAll G xs ds → (∀ p ∈ Ts.zip xs, G p.1 = some (.tup [p.2])) → DvAll G (Ts.map V.ref) (ds.map fun x => .tuple [x])
  | [], _, _, hl, .nil, _ => .nil
  | T :: Ts, _, _, hl, .cons v t, h => .cons (.tup (h (T, _) (by simp)) (.cons v .nil)) (ones_dv (by simpa using hl) t fun p hp => h p (by rw [List.zip_cons_cons]; exact List.mem_cons_of_mem _ hp))
section
variable {X : Cx} {e : Expr} {te : DTE} {p p2 sp pos pos2 : Pos}
theorem dLZE (hc : X.calm = true) (hg3 : Gl X "list") (hm3 : X.mg "list" = none) (hg2 : Gl X "zip") (hm2 : X.mg "zip" = none) (he : DE X e te)
    (nb : starEach [.Call (.Name "zip" p2) [.Starred e sp] [] pos2] X.env = (false, eval (.Call (.Name "zip" p2) [.Starred e sp] [] pos2) X.env) :: starEach [] X.env := by rfl) (hs : starEach [.Starred e sp] X.env = [(true, eval e X.env)] := by rfl) :
    DE X (.Call (.Name "list" p) [.Call (.Name "zip" p2) [.Starred e sp] [] pos2] [] pos) (dLZ te) :=
  toE (pe_lz hg3 hm3 hg2 hm2 hc he nb hs) fun σ H R ⟨F, en, G, Q, rl, h, fin⟩ => lift_data rl h fun x H1 G1 d en1 s1 R1 v1 q => by
    have key : ∀ (ys : List V) (rows : List PyData), DvAll G1 ys rows → (∃ (row : PyData) (xs : List PyData), rows = [row] ∧ (row = .list xs ∨ row = .tuple xs) ∧ Q (.own (.lst (xs.map fun x => .tuple [x]))) en1) →
        ∃ (l : Addr) (xs : List V), ys = [.ref l] ∧ Row X.K H1 l xs ∧ ∀ (p : Addr) (Ts : List Addr) (H' : Hp), Same H1 H' → H1 p = none → H' p = some (.lst (Ts.map V.ref)) → Ts.length = xs.length → (∀ (j : Nat) T x, Ts[j]? = some T → xs[j]? = some x → H' T = some (.tup [x])) → R (.ref p) H' := by
      rintro ys rows dv ⟨row, ds, rfl, hrow, q⟩
      cases dv with
      | cons v t =>
        cases t
        have fin2 : ∀ (xs : List V), DvAll G1 xs ds → ∀ (p : Addr) (Ts : List Addr) (H' : Hp), Same H1 H' → H1 p = none → H' p = some (.lst (Ts.map V.ref)) → Ts.length = xs.length → (∀ (j : Nat) T x, Ts[j]? = some T → xs[j]? = some x → H' T = some (.tup [x])) → R (.ref p) H' := fun xs dx p Ts H' sm np ep hl cells => by
          have mem : ∀ q ∈ Ts.zip xs, H' q.1 = some (.tup [q.2]) := fun q hq => by
            obtain ⟨j, hj, e⟩ := List.getElem_of_mem hq
            have e2 : (Ts.zip xs)[j]? = some q := by rw [List.getElem?_eq_getElem hj, e]
            rw [List.getElem?_zip_eq_some] at e2
            exact cells j _ _ e2.1 e2.2
          obtain ⟨G2, S, e2, o2⟩ := Bs.onesAt (Ts.zip xs) R1.bs sm mem
          have np2 : G2 p = none := by
            rw [o2 p fun q hq e => ?_]
            · exact R1.bs.sub.free np
            · have := mem q hq
              rw [← e, ep] at this
              cases this
          obtain ⟨R2, k2, l2⟩ := R1.res' (r := .own (.lst (ds.map fun x => .tuple [x]))) (x := .ref p) S ⟨p, .lst (Ts.map V.ref), rfl, np, ep, ones_dv hl (dx.same S.part) e2, np2⟩
          exact fin _ H' G2 _ en1 (s1.trans S.part) R2 k2 l2 q
        rcases hrow with rfl | rfl
        · cases v with
          | lst e a => exact ⟨_, _, rfl, .inl (.of (R1.bs.sub _ _ e)), fin2 _ a⟩
        · cases v with
          | tup e a => exact ⟨_, _, rfl, .inr (.of (R1.bs.sub _ _ e)), fin2 _ a⟩
    cases v1 with
    | lst e a =>
      obtain ⟨l, xs, rfl, row, k⟩ := key _ _ a q
      exact ⟨_, l, xs, rfl, .inr (.of (R1.bs.sub _ _ e)), row, k⟩
    | tup e a =>
      obtain ⟨l, xs, rfl, row, k⟩ := key _ _ a q
      exact ⟨_, l, xs, rfl, .inl (.of (R1.bs.sub _ _ e)), row, k⟩
    | _ => exact False.elim q
end
end Vf
set_option backward.eqns.nonrecursive true
namespace Vf
open PySem L2 PyProof.Rows PySem.Spec
/-! ## readings by values: dicts that are written out, d[k], d.get(k, x) -/
def keqD (a b : PyData) : Bool := match a, b with
  | .int i, .int j => decide (i = j)
  | .str s, .str t => decide (s = t)
  | _, _ => false
def lookKD (ps : List (PyData × PyData)) (k : PyData) : Option PyData := (ps.find? fun p => keqD p.1 k).map (·.2)
theorem keqD_key (a b : Key) : keqD (keyD a) (keyD b) = decide (a = b) := by
  cases a <;> cases b <;> simp [keqD, keyD]
theorem look_dv {G : Hp} (k : Key) : ∀ {kvs : List (Key × V)} {ds : List PyData}, DvAll G (kvs.map (·.2)) ds → (valV kvs k = none ∧ lookKD ((kvs.map fun p => keyD p.1).zip ds) (keyD k) = none) ∨ ∃ v d, valV kvs k = some v ∧ lookKD ((kvs.map fun p => keyD p.1).zip ds) (keyD k) = some d ∧ Dv G v d
  | [], _, .nil => .inl ⟨rfl, rfl⟩
  | p :: kvs, _, .cons (ds := ds) v t => by
    rename_i d
    by_cases e : p.1 = k
    · refine .inr ⟨p.2, d, ?_, ?_, v⟩
      · unfold valV
        rw [List.find?_cons_of_pos (by exact decide_eq_true e)]
        rfl
      · unfold lookKD
        rw [List.map_cons, List.zip_cons_cons, List.find?_cons_of_pos (by rw [keqD_key]; exact decide_eq_true e)]
        rfl
    · have h1 : valV (p :: kvs) k = valV kvs k := by
        unfold valV
        rw [List.find?_cons_of_neg (by simpa using e)]
      have h2 : lookKD (((p :: kvs).map fun p => keyD p.1).zip (d :: ds)) (keyD k) = lookKD ((kvs.map fun p => keyD p.1).zip ds) (keyD k) := by
        unfold lookKD
        rw [List.map_cons, List.zip_cons_cons, List.find?_cons_of_neg (by rw [keqD_key]; simpa using e)]
      rw [h1, h2]
      exact look_dv k t
/-- a key by its data -/
def asKey : PyData → (PyData → Prop) → Prop
  | .int i, P => P (.int i)
  | .str s, P => P (.str s)
  | _, _ => False
theorem asKey.get {G : Hp} {y : V} {d : PyData} {P : PyData → Prop} (v : Dv G y d) (h : asKey d P) : ∃ k : Key, y = kV k ∧ d = keyD k ∧ P d := by
  cases v with
  | int i => exact ⟨.inl i, rfl, rfl, h⟩
  | str s => exact ⟨.inr s, rfl, rfl, h⟩
  | _ => exact False.elim h
def asDict : PyData → (List (PyData × PyData) → Prop) → Prop
  | .dict ps, P => P ps
  | _, _ => False
/-- d[k] -/
def dGetS (t tk : DTE) : DTE := fun en Q => t en fun r en1 => asD r fun d => asDict d fun ps => tk en1 fun r2 en2 => asD r2 fun k => asKey k fun k => ∃ z, lookKD ps k = some z ∧ Q (.v z) en2
/-- d.get(k, x) -/
def dGet2 (t tk td : DTE) : DTE := fun en Q => t en fun r en1 => asD r fun d => asDict d fun ps => tk en1 fun r2 en2 => asD r2 fun k => asKey k fun k => td en2 fun r3 en3 => asD r3 fun x => Q (.v ((lookKD ps k).getD x)) en3
section
variable {X : Cx} {o e f : Expr} {to te tf : DTE} {pos apos cpos : Pos}
theorem dGetSE (hu : X.A.units + 1 < cLine) (ho : DE X o to) (he : DE X e te) (hs : NoSl e) : DE X (.Subscript o e pos) (dGetS to te) :=
  toE (pe_dget hu ho he hs) fun σ H R ⟨F, en, G, Q, rl, h, fin⟩ => lift_data rl h fun x H1 G1 d en1 s1 R1 v1 q => by
    cases v1 with
    | @dic a kvs ds ea va =>
      refine lift_data R1 q fun y H2 G2 k en2 s2 R2 v2 q2 => ?_
      obtain ⟨key, rfl, rfl, z, ez, q2⟩ := asKey.get v2 q2
      rcases look_dv key (va.same s2) with ⟨_, e2⟩ | ⟨v, d, e1, e2, dv⟩
      · rw [ez] at e2
        cases e2
      · rw [ez] at e2
        cases e2
        exact ⟨a, v, rfl, .inl ⟨kvs, key, .of (R2.bs.sub _ _ (s2 _ _ ea)), rfl, e1.symm⟩, fin.v (s1.trans s2) R2 dv q2⟩
    | _ => exact False.elim q
theorem dGet2E (hu : X.A.units + 1 < cLine) (ho : DE X o to) (he : DE X e te) (hf : DE X f tf) (m : M2 X o "get" apos e f cpos) : DE X (.Call (.Attribute o "get" apos) [e, f] [] cpos) (dGet2 to te tf) :=
  toE (pe_dget2 hu ho he hf m) fun σ H R ⟨F, en, G, Q, rl, h, fin⟩ => lift_data rl h fun x H1 G1 d en1 s1 R1 v1 q => by
    cases v1 with
    | @dic a kvs ds ea va =>
      refine ⟨a, rfl, .inl ⟨kvs, .of (R1.bs.sub _ _ ea)⟩, lift_data R1 q fun y H2 G2 k en2 s2 R2 v2 q2 => ?_⟩
      obtain ⟨key, rfl, rfl, q2⟩ := asKey.get v2 q2
      refine lift_data R2 q2 fun z H3 G3 x en3 s3 R3 v3 q3 => ?_
      have s23 := s2.trans s3
      rcases look_dv key (va.same s23) with ⟨e1, e2⟩ | ⟨v, d, e1, e2, dv⟩
      · rw [e2] at q3
        exact ⟨none, .inl ⟨kvs, key, .of (R3.bs.sub _ _ (s23 _ _ ea)), rfl, e1.symm⟩, fin.v (s1.trans s23) R3 v3 q3⟩
      · rw [e2] at q3
        exact ⟨some v, .inl ⟨kvs, key, .of (R3.bs.sub _ _ (s23 _ _ ea)), rfl, e1.symm⟩, fin.v (s1.trans s23) R3 dv q3⟩
    | _ => exact False.elim q
end
/-! ### {k: v, ..} -/
def dPairs : List (DTE × DTE) → Ev → (List (PyData × PyData) → Ev → Prop) → Prop
  | [], en, Q => Q [] en
  | t :: r, en, Q => t.1 en fun r1 en1 => asD r1 fun k => t.2 en1 fun r2 en2 => asD r2 fun v => dPairs r en2 fun ps en3 => Q ((k, v) :: ps) en3
def DvP (G : Hp) (vs : List (V × V)) (ds : List (PyData × PyData)) : Prop := DvAll G (vs.map (·.1)) (ds.map (·.1)) ∧ DvAll G (vs.map (·.2)) (ds.map (·.2))
theorem lift_pairs {σ : L2.St} {K : List (V × V) → Hp → Prop} : ∀ {ts : List (DTE × DTE)} {F : Fr} {en : Ev} {H G : Hp} {Q : List (PyData × PyData) → Ev → Prop}, Rl F en σ H G → dPairs ts en Q →
    (∀ (H' G' : Hp) (vs : List (V × V)) (ds : List (PyData × PyData)) (en' : Ev), Same G G' → Rl F en' σ H' G' → DvP G' vs ds → Q ds en' → K vs H') → tPairs (ts.map fun t => (lift t.1, lift t.2)) σ H K
  | [], F, en, H, G, Q, rl, h, fin => fin H G [] [] en (Same.refl G) rl ⟨.nil, .nil⟩ h
  | t :: ts, F, en, H, G, Q, rl, h, fin => lift_data rl h fun x H1 G1 d en1 s1 R1 v1 q1 => lift_data R1 q1 fun y H2 G2 e en2 s2 R2 v2 q2 =>
      lift_pairs R2 q2 fun H3 G3 vs ds en3 s3 R3 dv q3 => fin H3 G3 ((x, y) :: vs) ((d, e) :: ds) en3 ((s1.trans s2).trans s3) R3 ⟨.cons (v1.same (s2.trans s3)) dv.1, .cons (v2.same s3) dv.2⟩ q3
theorem keys_of {G : Hp} : ∀ {vs : List (V × V)} {kds : List (Key × PyData)}, DvP G vs (kds.map fun p => (keyD p.1, p.2)) → ∃ kvs : List (Key × V), vs = kvs.map (fun p => (kV p.1, p.2)) ∧ kvs.map (·.1) = kds.map (·.1) ∧ DvAll G (kvs.map (·.2)) (kds.map (·.2))
  | [], [], _ => ⟨[], rfl, rfl, .nil⟩
  | [], _ :: _, h => nomatch h.1
  | _ :: _, [], h => nomatch h.1
  | v :: vs, p :: kds, ⟨.cons a b, .cons c d⟩ => by
    obtain ⟨kvs, e1, e2, e3⟩ := keys_of (vs := vs) (kds := kds) ⟨b, d⟩
    have ev : v.1 = kV p.1 := by
      obtain ⟨x, y⟩ := v
      obtain ⟨k, z⟩ := p
      cases k with
      | inl i => cases a; rfl
      | inr s => cases a; rfl
    exact ⟨(p.1, v.2) :: kvs, by rw [e1, List.map_cons, ← ev], by rw [List.map_cons, e2]; rfl, .cons c e3⟩
theorem merge_new : ∀ (more acc : List (Key × V)), ((acc ++ more).map (·.1)).Nodup → more.foldl (fun acc kv => putK acc kv.1 kv.2) acc = acc ++ more
  | [], acc, _ => (List.append_nil _).symm
  | p :: more, acc, h => by
    have no : (acc.any fun kv => decide (kv.1 = p.1)) = false := by
      rw [List.any_eq_false]
      intro q hq e
      rw [List.map_append, List.nodup_append] at h
      exact h.2.2 q.1 (List.mem_map.mpr ⟨q, hq, rfl⟩) p.1 (by simp) (of_decide_eq_true e)
    have e1 : putK acc p.1 p.2 = acc ++ [p] := by
      unfold putK
      rw [if_neg (by rw [no]; exact Bool.false_ne_true)]
    rw [List.foldl_cons, e1, merge_new more (acc ++ [p]) (by rwa [List.append_assoc]), List.append_assoc]
    rfl
def dDisp (ts : List (DTE × DTE)) : DTE := fun en Q => dPairs ts en fun ps en1 => ∃ kds : List (Key × PyData), ps = kds.map (fun p => (keyD p.1, p.2)) ∧ (kds.map (·.1)).Nodup ∧ kds.length ≤ 15 ∧ Q (.own (.dic kds)) en1
structure DPs (X : Cx) (pos : Pos) (keys : List (Option Expr)) (values : List Expr) (ts : List (DTE × DTE)) : Prop where
  ps : PPs X pos keys values (ts.map fun t => (lift t.1, lift t.2))
theorem dps_nil {X : Cx} {pos : Pos} : DPs X pos [] [] [] := ⟨pps_nil⟩
theorem dps_cons {X : Cx} {pos : Pos} {k v : Expr} {ks : List (Option Expr)} {vs : List Expr} {tk tv : DTE} {ts : List (DTE × DTE)} (hk : DE X k tk) (hv : DE X v tv) (hr : DPs X pos ks vs ts) : DPs X pos (some k :: ks) (v :: vs) ((tk, tv) :: ts) := ⟨pps_cons hk hv hr.ps⟩
theorem dDispE {X : Cx} {pos : Pos} {keys : List (Option Expr)} {values : List Expr} {ts : List (DTE × DTE)} (h : DPs X pos keys values ts) (hall : keys.all (·.isSome) = true) (hl : keys.length = values.length) (h0 : keys ≠ []) (h15 : keys.length ≤ 15) : DE X (.Dict keys values pos) (dDisp ts) :=
  toE (pe_disp h.ps hall hl h0 h15) fun σ H R ⟨F, en, G, Q, rl, h, fin⟩ p np => by
    have nk : ¬ F.dk p := fun d => F.has H p rl.bs.dok d np
    have n0 : F.H0 p = none := by
      cases z : F.H0 p with
      | none => rfl
      | some u => rw [rl.st.big p u z nk] at np; cases np
    have gn : G p = none := rl.bs.sub.free np
    have ng : F.G0 p = none := by
      cases z : F.G0 p with
      | none => rfl
      | some u => rw [rl.st.part p u z] at gn; cases gn
    have Rh := (rl.step (rl.bs.same (same_upd (o := .dK []) np))).hold upd_same gn nk (rl.apart np)
    refine lift_pairs Rh h fun H4 G4 vs ds en4 s4 R4 dv ⟨kds, e, nd, few, q⟩ => ?_
    subst e
    obtain ⟨R5, e5, n5, ap5⟩ := R4.unhold (fun _ => nofun) rl.d0 n0 nk ng
    obtain ⟨kvs, rfl, ek, dvs⟩ := keys_of dv
    have Rb := R5.beside (o := .dK (mergeK [] kvs)) n5 nk n0 ap5
    have em : mergeK [] kvs = kvs := by
      unfold mergeK
      rw [merge_new kvs [] (by rw [List.nil_append, ek]; exact nd)]
      rfl
    refine ⟨e5, kvs, rfl, by have := congrArg List.length ek; rw [List.length_map, List.length_map] at this; omega, ?_⟩
    rw [em] at Rb ⊢
    exact fin _ _ G4 (.own (.dic kds)) en4 s4 Rb ⟨p, _, rfl, upd_same, ⟨ek, dvs⟩, n5, nk, n0⟩ (fun c _ => ap5) q
theorem data_dic {kvs : List (Key × PyData)} : Ct.data (.dic kvs) = .dict (kvs.map fun p => (keyD p.1, p.2)) := rfl
theorem look_cons {p : PyData × PyData} {ps : List (PyData × PyData)} {k : PyData} : lookKD (p :: ps) k = if keqD p.1 k = true then some p.2 else lookKD ps k := by
  unfold lookKD
  rw [List.find?_cons]
  split <;> simp_all
theorem look_nil {k : PyData} : lookKD [] k = none := rfl
theorem keqD_s {a b : Str} : keqD (.str a) (.str b) = decide (a = b) := rfl
theorem keqD_i {a b : Int} : keqD (.int a) (.int b) = decide (a = b) := rfl
/-! ### |=, &=, ^= of whole numbers -/
section
variable {X : Cx}
theorem iop_or : OpR X (inplaceOp .BitOr) (rI0 fun i j => .int (Builtin.bitOr i j)) := opI0 fun _ _ _ _ _ _ _ q => ior_int q
theorem iop_xor : OpR X (inplaceOp .BitXor) (rI0 fun i j => .int (Builtin.bitXor i j)) := opI0 fun _ _ _ _ _ _ _ q => ixor_int q
theorem iop_and : OpR X (inplaceOp .BitAnd) (rI0 fun i j => .int (Builtin.bitAnd i j)) := opI0 fun _ _ _ _ _ _ _ q => iand_int q
theorem ipOr : PIp X .BitOr (liftR2 (s2 (sInt yesC Builtin.bitOr))) := up2 (ofI0 iop_or)
theorem ipXor : PIp X .BitXor (liftR2 (s2 (sInt yesC Builtin.bitXor))) := up2 (ofI0 iop_xor)
theorem ipAnd : PIp X .BitAnd (liftR2 (s2 (sInt yesC Builtin.bitAnd))) := up2 (ofI0 iop_and)
end
/-! ### sorted(set(texts)) -/
theorem strs_dv {G : Hp} : ∀ l : List Str, DvAll G (l.map V.str) (l.map PyData.str)
  | [] => .nil
  | x :: l => .cons (.str x) (strs_dv l)
def dSortedSetS (t : DTE) : DTE := fun en Q => t en fun r en1 => asD r fun d => asLst d fun ds => asSs ds fun ss => ss.length + 1 < scanBound ∧ (inss ss).length < 64 ∧ ∀ ys : List Str, ys.Perm (inss ss) → sortedS ys = true → Q (.own (.lst (ys.map .str))) en1
theorem dSortedSetSE {X : Cx} {e : Expr} {te : DTE} {p p2 pos pos2 : Pos} (hc : X.calm = true) (hg : Gl X "sorted") (hm : X.mg "sorted" = none) (hg2 : Gl X "set") (hm2 : X.mg "set" = none) (he : DE X e te)
    (h1 : starEach [.Call (.Name "set" p2) [e] [] pos2] X.env = (false, eval (.Call (.Name "set" p2) [e] [] pos2) X.env) :: starEach [] X.env := by rfl) (h2 : (backTo pos (starEach [] X.env)).any (·.1) = false := by rfl)
    (h3 : starEach [e] X.env = (false, eval e X.env) :: starEach [] X.env := by rfl) (h4 : (backTo pos2 (starEach [] X.env)).any (·.1) = false := by rfl) :
    DE X (.Call (.Name "sorted" p) [.Call (.Name "set" p2) [e] [] pos2] [] pos) (dSortedSetS te) :=
  toE (pe_callB (cr_sortedTx hc) hg hm (by decide +kernel) (pa_cons (pe_callTy (cr_setS hc) hg2 hm2 (by decide +kernel) (pa_cons he pa_nil h3) (by decide) (by decide) h3 h4) pa_nil h1) (by decide) (by decide) h1 h2) fun σ H R ⟨F, en, G, Q, rl, h, fin⟩ => lift_data rl h fun x H1 G1 d en1 s1 R1 v1 q => by
    obtain ⟨a, ys, ds, rfl, e1, a1, q⟩ := asLst.get v1 q
    obtain ⟨ss, rfl, hb, few, q⟩ := asSs.get a1 q
    refine ⟨a, ss, rfl, .of (R1.bs.sub _ _ e1), hb, fun p np => ⟨p, _, rfl, upd_same, few, fun zs q0 pm srt nq => ?_⟩⟩
    have S1 := same_upd (o := TxO X.prog X.w p (inss ss)) np
    have S := R1.bs.same (S1.trans (same_upd (o := .lst (zs.map V.str)) nq))
    obtain ⟨R2, o2, l2⟩ := R1.res' (r := .own (.lst (zs.map .str))) (x := .ref q0) S ⟨q0, .lst (zs.map V.str), rfl, S1.free nq, upd_same, strs_dv _, R1.bs.sub.free (S1.free nq)⟩
    exact fin _ _ _ _ en1 s1 R2 o2 l2 (q zs pm srt)
end Vf
set_option backward.eqns.nonrecursive true
namespace Vf
open PySem L2 PyProof.Rows PySem.Spec
/-! ## readings by values: x[::k], things of the module -/
theorem dv_pick {G : Hp} {xs : List V} {ds : List PyData} (h : DvAll G xs ds) : ∀ is : List Nat, DvAll G (pickL is xs) (pickL is ds)
  | [] => .nil
  | i :: is => by
    unfold pickL
    rw [List.filterMap_cons, List.filterMap_cons]
    cases e : xs[i]? with
    | none =>
      have e2 : ds[i]? = none := by
        have := List.getElem?_eq_none_iff.mp e
        rw [h.len] at this
        exact List.getElem?_eq_none_iff.mpr this
      rw [e2]
      exact dv_pick h is
    | some x =>
      obtain ⟨d, e2, dv⟩ := dvAt h e
      rw [e2]
      exact .cons dv (dv_pick h is)
def dStep (t : DTE) : DTE := fun en Q => t en fun r en1 => asD r fun d => asLst d fun ds => ∀ is : List Nat, (pickL is ds).length ≤ ds.length → Q (.own (.lst (pickL is ds))) en1
section
variable {X : Cx} {pos : Pos}
theorem dStepE {e : Expr} {te : DTE} {n : Int} {k : Nat} {p1 p3 : Pos} (hn : n ≠ 0) (he : DE X e te) : DE X (.Subscript e (.Slice none none (some (.Constant (.int n) k p1)) p3) pos) (dStep te) :=
  toE (pe_stepL hn he) fun σ H R ⟨F, en, G, Q, rl, h, fin⟩ => lift_data rl h fun x H1 G1 d en1 s1 R1 v1 h1 => by
    obtain ⟨a, ys, ds, rfl, e1, a1, h1⟩ := asLst.get v1 h1
    refine ⟨a, ys, rfl, .of (R1.bs.sub _ _ e1), fun is p n hl => ?_⟩
    have dv := dv_pick a1 is
    have S := R1.bs.same (same_upd (o := .lst (pickL is ys)) n)
    obtain ⟨R2, o2, l2⟩ := R1.res' (r := .own (.lst (pickL is ds))) (x := .ref p) S ⟨p, .lst (pickL is ys), rfl, n, upd_same, dv, R1.bs.sub.free n⟩
    exact fin _ _ _ _ en1 s1 R2 o2 l2 (h1 is (by rw [← dv.len, ← a1.len]; exact hl))
/-! ### things of the module, by themselves -/
def asG : Rv → (V → Prop) → Prop
  | .glb v, P => P v
  | .ab _, _ => False
  | .v _, _ => False
  | .own _, _ => False
  | .deck, _ => False
  | .non, _ => False
def dGlb (v : V) : DTE := fun en Q => Q (.glb v) en
theorem dGlbE {e : Expr} {v : V} (h : PE X e (tC v)) : DE X e (dGlb v) := toE h fun σ H R ⟨F, en, G, Q, rl, q, fin⟩ => fin v H G (.glb v) en (Same.refl G) rl rfl (fun _ e => by cases e) q
/-- what a name has: data, or a thing of the module -/
def rdM : Option Rv → (PyData → Prop) → (V → Prop) → Prop
  | some (.v d), P, _ => P d
  | some (.own c), P, _ => P c.data
  | some (.glb v), _, R => R v
  | some (.ab _), _, _ => False
  | some .deck, _, _ => False
  | some .non, _, _ => False
  | none, _, _ => False
theorem rdM.get {o : Option Rv} {P : PyData → Prop} {R : V → Prop} (h : rdM o P R) : rdR o P ∨ ∃ v, o = some (.glb v) ∧ R v := by
  match o, h with
  | some (.v d), h => exact .inl h
  | some (.own c), h => exact .inl h
  | some (.glb v), h => exact .inr ⟨v, rfl, h⟩
/-- a tuple of flat things of the module -/
def TupG (K : PySem.W.Frag) (v : V) (ds : List PyData) : Prop := ∃ (a : Addr) (xs : List V), v = .ref a ∧ (∀ H, SqT K H a xs) ∧ (∀ G, DvAll G xs ds) ∧ ds.all flatD = true
/-- e in a name -/
def dInM (K : PySem.W.Frag) (neg : Bool) (i : Nat) (ta : DTE) : DTE := fun en Q => ta en fun r1 en1 => asD r1 fun d1 => rdM en1[i]? (fun d2 => inSD neg d1 d2 fun z => Q (.v z) en1) (fun v => ∃ ds, TupG K v ds ∧ flatD d1 = true ∧ Q (.v (.bool (neg ^^ inD d1 ds))) en1)
def rInM (K : PySem.W.Frag) (neg : Bool) : R2 := fun x y H Q => liftP2 (inSD neg) x y H Q ∨ ∃ (G : Hp) (d : PyData) (ds : List PyData), Dv G x d ∧ flatD d = true ∧ TupG K y ds ∧ Q (.bl (neg ^^ inD d ds)) H
theorem rInM_of {op : Value → Value → Sem Value} {neg : Bool} (h1 : OpR X op (liftP2 (inSD neg))) (h2 : OpR X op (rInA X.K neg)) : OpR X op (rInM X.K neg) := fun pins s σ H x y v u R I rx ry h => by
  rcases h with h | ⟨G, d, ds, dv, f, ⟨a, xs, rfl, sq, da, fl⟩, q⟩
  · exact h1 pins s σ H x y v u R I rx ry h
  · refine h2 pins s σ H x _ v u R I rx ry ?_
    have e : rInA X.K neg x (.ref a) H R = ∃ xs, (SqL X.K H a xs ∨ SqT X.K H a xs) ∧ flatV x = true ∧ xs.all flatV = true ∧ R (.bl (neg ^^ inV x xs)) H := by cases x <;> rfl
    rw [e]
    obtain ⟨g1, g2⟩ := inD_of dv f (da G) fl
    exact ⟨xs, .inr (sq H), flat_of dv f, g1, by rw [g2]; exact q⟩
theorem pInM (hu : X.A.units + 65 < cLine) : OpR X (compareOp .In) (rInM X.K false) := rInM_of (pIn hu) opIn
theorem lift_inM {K : PySem.W.Frag} {neg : Bool} {i : Nat} {ta : DTE} {σ : L2.St} {H : Hp} {R : VK} (h : lift (dInM K neg i ta) σ H R) : tOp (rInM K neg) (lift ta) (tVar i) σ H R := by
  obtain ⟨F, en, G, Q, rl, h, fin⟩ := h
  refine lift_data rl h fun y H2 G2 d2 en2 s2 R2 v2 h2 => ?_
  rcases h2.get with h2 | ⟨v, ev, ds, tg, fd, q⟩
  · obtain ⟨x', G', d1, ex', sg, sh, v1, q⟩ := R2.read h2
    exact ⟨x', ex', .inl ⟨G', d2, d1, _, sh, v2.same sg, v1, q, fun z d p k => fin.v s2 R2 (k G2) p⟩⟩
  · obtain ⟨x', ex', k⟩ := R2.slot i _ ev nofun
    obtain rfl : x' = v := k
    exact ⟨x', ex', .inr ⟨G2, d2, ds, v2, fd, tg, fin.v s2 R2 (.bl _) q⟩⟩
variable {a b : Expr} {ta : DTE} {i : Nat}
theorem dInME (hu : X.A.units + 65 < cLine) (ha : DE X a ta) (hb : PE X b (tVar i)) (hm : behindInMarks .In b = false) : DE X (.Compare a [.In] [b] pos) (dInM X.K false i ta) := toE (pe_cmpR (pInM hu) ha hb hm) fun _ _ _ => lift_inM
theorem dtInME (hu : X.A.units + 65 < cLine) (ha : DE X a ta) (hb : PE X b (tVar i)) (hm : behindInMarks .In b = false) : DT X (.Compare a [.In] [b] pos) (dTest (dInM X.K false i ta)) :=
  toT (pt_cmpR (pInM hu) ha hb hm) fun σ H R ⟨F, en, G, Q, rl, h, fin⟩ => lift_inM (lift_data rl h fun x H1 G1 d en1 s1 R1 v1 h1 => by
    cases v1 with
    | bl b => exact ⟨b, rfl, fin b H1 G1 en1 s1 R1 h1⟩
    | _ => exact False.elim h1)
end
end Vf
set_option backward.eqns.nonrecursive true
namespace Vf
open PySem L2 PyProof.Rows PySem.Spec
/-! ## readings by values: calls whose defaults fill up, by keywords in any order -/
theorem OksA.append {F : Fr} {H G : Hp} : ∀ {xs ys : List V} {rs ss : List Rv}, OksA F H G xs rs → OksA F H G ys ss → OksA F H G (xs ++ ys) (rs ++ ss)
  | [], _, [], _, _, h => h
  | _ :: _, _, .v _ :: _, _, ⟨a, b⟩, h => ⟨a, b.append h⟩
  | _ :: _, _, .deck :: _, _, ⟨a, b⟩, h => ⟨a, b.append h⟩
  | _ :: _, _, .glb _ :: _, _, ⟨a, b⟩, h => ⟨a, b.append h⟩
  | _ :: _, _, .ab _ :: _, _, ⟨a, b⟩, h => ⟨a, b.append h⟩
  | [], _, _ :: _, _, h, _ => h.elim
  | _ :: _, _, [], _, h, _ => h.elim
  | _ :: _, _, .non :: _, _, h, _ => h.elim
  | _ :: _, _, .own _ :: _, _, h, _ => h.elim
/-- values that stand whatever the heap -/
def Still (xs : List V) (rs : List Rv) : Prop := ∀ F H G, OksA F H G xs rs
theorem Still.nil : Still [] [] := fun _ _ _ => trivial
theorem Still.glb {v : V} {xs : List V} {rs : List Rv} (h : Still xs rs) : Still (v :: xs) (.glb v :: rs) := fun F H G => ⟨rfl, h F H G⟩
theorem Still.int {i : Int} {xs : List V} {rs : List Rv} (h : Still xs rs) : Still (.int i :: xs) (.v (.int i) :: rs) := fun F H G => ⟨.int i, h F H G⟩
theorem Still.bl {i : Bool} {xs : List V} {rs : List Rv} (h : Still xs rs) : Still (.bl i :: xs) (.v (.bool i) :: rs) := fun F H G => ⟨.bl i, h F H G⟩
theorem Still.non {xs : List V} {rs : List Rv} (h : Still xs rs) : Still (.non :: xs) (.v .none :: rs) := fun F H G => ⟨.non, h F H G⟩
def dCallD (sp : DSp) (rd : List Rv) (t : DTA) : DTE := fun en Q => t en fun rs en1 => sp (rs ++ rd) fun r => Q r en1
section
variable {X : Cx} {x : Str} {ps : List Str} {k : Nat} {sp : DSp} {p pos : Pos} {e : Expr} {es : List Expr} {ta tk : DTA} {dvs : List V} {rd : List Rv} {kws : List Keyword}
theorem lift_callD (st : Still dvs rd) {σ : L2.St} {H : Hp} {R : VK} (h : lift (dCallD sp rd ta) σ H R) : tCall (spD sp) dvs E0 (liftA ta) σ H R := by
  obtain ⟨F, en, G, Q, rl, h, fin⟩ := h
  refine ⟨F, en, G, _, rl, h, fun xs H1 G1 rs en1 s1 R1 ok q => ⟨F, G1, rs ++ rd, _, R1.bs, ok.append (st F H1 G1), q, fun z H' G' r S okr q => ?_⟩⟩
  obtain ⟨R2, ok2, l2⟩ := R1.res' S okr
  exact fin z H' G' r en1 (s1.trans S.part) R2 ok2 l2 q
theorem dCallDE (c : CalD X.prog X.w X.K X.mg X.base x ps k (spD sp) dvs) (st : Still dvs rd) (hgd : X.A.guards = some []) (hr : Room k X.A) (hg : Gl X x) (ha : DA X (e :: es) ta) (hdb : (x == ("__debug__" : Str)) = false := by decide)
    (he : starEach (e :: es) X.env = (false, eval e X.env) :: starEach es X.env := by rfl) (hpl : (backTo pos (starEach es X.env)).any (·.1) = false := by rfl) : DE X (.Call (.Name x p) (e :: es) [] pos) (dCallD sp rd ta) := toE (pe_calD c hgd hr hg ha hdb he hpl) fun _ _ _ => lift_callD st
/-- the worths as the def binds them -/
def KeyR (n m : Nat) (gV : List V → List V → List V) (gR : List Rv → List Rv → List Rv) : Prop := ∀ (F : Fr) (H G : Hp) (vs zs : List V) (rs ss : List Rv), rs.length = n → ss.length = m → OksA F H G vs rs → OksA F H G zs ss → OksA F H G (gV vs zs) (gR rs ss)
def keySp (n m : Nat) (sp : DSp) (gR : List Rv → List Rv → List Rv) : List Rv → List Rv → (Rv → Prop) → Prop := fun rs ss P => (rs.length = n ∧ ss.length = m) ∧ sp (gR rs ss) P
theorem spk_of {n m : Nat} {gV : List V → List V → List V} {gR : List Rv → List Rv → List Rv} (hg : KeyR n m gV gR) (vs zs : List V) (H : Hp) (R : VK) (h : spDK (keySp n m sp gR) vs zs H R) : spD sp (gV vs zs) H R E0 := by
  obtain ⟨F, G, rs, ks, P, B, o1, o2, ⟨⟨h1, h2⟩, h⟩, q⟩ := h
  exact ⟨F, G, gR rs ks, P, B, hg F H G vs zs rs ks h1 h2 o1 o2, h, q⟩
/-- by keywords, told of the worths as they are bound -/
def dCallW (n m : Nat) (sp : DSp) (gR : List Rv → List Rv → List Rv) (t tk : DTA) : DTE := dCallK n m (keySp n m sp gR) t tk
theorem dCallWE {ks : List Str} {n : Nat} {gV : List V → List V → List V} {gR : List Rv → List Rv → List Rv} (c : CalN X.prog X.w X.K X.mg X.base x ps ks n gV k (spD sp)) (hR : KeyR n ks.length gV gR) (hgd : X.A.guards = some []) (hr : Room k X.A) (hg : Gl X x) (ha : DA X (e :: es) ta) (hkw : DK X kws tk)
    (hal : (backToKw pos (keywordEach kws X.env)).all (·.1.isSome) = true := by rfl) (hks : (backToKw pos (keywordEach kws X.env)).filterMap (·.1) = ks := by rfl) (hdb : (x == ("__debug__" : Str)) = false := by decide)
    (he : starEach (e :: es) X.env = (false, eval e X.env) :: starEach es X.env := by rfl)
    (hpl : ((backTo pos (starEach (e :: es) X.env)).any (·.1) || (backToKw pos (keywordEach kws X.env)).any (·.1.isNone)) = false := by rfl) : DE X (.Call (.Name x p) (e :: es) kws pos) (dCallW n ks.length sp gR ta tk) := dCallKE c (spk_of hR) hgd hr hg ha hkw hal hks hdb he hpl
theorem dCallW0E {ks : List Str} {n : Nat} {gV : List V → List V → List V} {gR : List Rv → List Rv → List Rv} (c : CalN X.prog X.w X.K X.mg X.base x ps ks n gV k (spD sp)) (hR : KeyR n ks.length gV gR) (hgd : X.A.guards = some []) (hr : Room k X.A) (hg : Gl X x) (hkw : DK X kws tk)
    (hal : (backToKw pos (keywordEach kws X.env)).all (·.1.isSome) = true := by rfl) (hks : (backToKw pos (keywordEach kws X.env)).filterMap (·.1) = ks := by rfl) (hdb : (x == ("__debug__" : Str)) = false := by decide)
    (hpl : ((backTo pos (starEach [] X.env)).any (·.1) || (backToKw pos (keywordEach kws X.env)).any (·.1.isNone)) = false := by rfl) : DE X (.Call (.Name x p) [] kws pos) (dCallW n ks.length sp gR dNil tk) := dCallK0E c (spk_of hR) hgd hr hg hkw hal hks hdb hpl
end
theorem CalD.upV {P : Program} {w : World} {K : PySem.W.Frag} {mg : Str → Option Value} {base : Heap} {x : Str} {ps : List Str} {k : Nat} {dvs : List V} {sp sp' : Sp} (c : CalD P w K mg base x ps k sp dvs) (h : ∀ vs H Q E, sp' vs H Q E → sp vs H Q E) : CalD P w K mg base x ps k sp' dvs := by
  obtain ⟨f, fd, ds, F, r⟩ := c.ex
  exact ⟨f, fd, ds, ⟨fun vs H Q E q => F.many vs H Q E (h vs H Q E q), fun A outer s H args us vs Q E hg hr env hb rv q => F.go A outer s H args us vs Q E hg hr env hb rv (h vs H Q E q)⟩, r⟩
theorem OksA.nth {F : Fr} {H G : Hp} : ∀ {zs : List V} {ss : List Rv} (i : Nat) (rest : List V) (rr : List Rv), i < ss.length → OksA F H G zs ss → OksA F H G rest rr → OksA F H G (zs.getD i .non :: rest) (ss.getD i .non :: rr)
  | _ :: _, .v _ :: _, 0, _, _, _, ⟨a, _⟩, h => ⟨a, h⟩
  | _ :: _, .deck :: _, 0, _, _, _, ⟨a, _⟩, h => ⟨a, h⟩
  | _ :: _, .glb _ :: _, 0, _, _, _, ⟨a, _⟩, h => ⟨a, h⟩
  | _ :: _, .ab _ :: _, 0, _, _, _, ⟨a, _⟩, h => ⟨a, h⟩
  | _ :: _, .v _ :: ss, i + 1, rest, rr, hi, ⟨_, b⟩, h => b.nth i rest rr (by simpa using hi) h
  | _ :: _, .deck :: ss, i + 1, rest, rr, hi, ⟨_, b⟩, h => b.nth i rest rr (by simpa using hi) h
  | _ :: _, .glb _ :: ss, i + 1, rest, rr, hi, ⟨_, b⟩, h => b.nth i rest rr (by simpa using hi) h
  | _ :: _, .ab _ :: ss, i + 1, rest, rr, hi, ⟨_, b⟩, h => b.nth i rest rr (by simpa using hi) h
  | [], [], i, _, _, hi, _, _ => absurd hi (by simp)
  | [], _ :: _, _, _, _, _, h, _ => h.elim
  | _ :: _, [], _, _, _, _, h, _ => h.elim
  | _ :: _, .non :: _, _, _, _, _, h, _ => h.elim
  | _ :: _, .own _ :: _, _, _, _, _, h, _ => h.elim
theorem dRevTE {X : Cx} {e : Expr} {te : DTE} {k : Nat} {p1 p2 p3 pos : Pos} (he : DE X e te) : DE X (.Subscript e (.Slice none none (some (.UnaryOp .USub (.Constant (.int 1) k p1) p2)) p3) pos) (dRevT te) :=
  toE (pe_revT he) fun σ H R ⟨F, en, G, Q, rl, h, fin⟩ => lift_data rl h fun x H1 G1 d en1 s1 R1 v1 h1 => by
    cases d with
    | tuple ds =>
      cases v1 with
      | @tup a ys _ e1 a1 =>
        refine ⟨a, ys, rfl, .of (R1.bs.sub _ _ e1), fun p n => ?_⟩
        have S := R1.bs.new (same_upd (o := .tup ys.reverse) n) n upd_same
        exact fin.v (s1.trans S.part) (R1.step S) (.tup upd_same ((dvRev a1).same S.part)) h1
    | _ => exact False.elim h1
/-! ### a, b = x, y, what is one's own staying so -/
def dPar2 (i j : Nat) (ta tb : DTE) : DTS := fun D en => ta en fun r1 en1 => tb en1 fun r2 en2 => r1 ≠ .non ∧ D.nx ((en2.set i r1).set j r2)
theorem Ok.unadd {F : Fr} {H G : Hp} {a : Addr} {o : HO} {x : V} {r : Rv} (n0 : F.H0 a = none) (h : Ok (F.add a o) H G x r) : Ok F H G x r ∧ ∀ c, r = .own c → x ≠ .ref a := by
  cases r with
  | non => exact ⟨trivial, nofun⟩
  | v d => exact ⟨h, nofun⟩
  | deck => exact ⟨h, nofun⟩
  | glb v => exact ⟨h, nofun⟩
  | ab A => exact ⟨h, nofun⟩
  | own c =>
    obtain ⟨b, u, rfl, g1, g2, g3, g4, g5⟩ := h
    have g5 : upd F.H0 a o b = none := g5
    have hb : b ≠ a := fun z => by rw [z, upd_same] at g5; cases g5
    exact ⟨⟨b, u, rfl, g1, g2, g3, g4, by rw [← g5, upd_ne hb]⟩, fun _ _ z => hb (V.ref.inj z)⟩
section
variable {X : Cx}
theorem dsPar2 {i j : Nat} {x y : Str} {a b : Expr} {ta tb : DTE} {px py pt pos : Pos} {kt k2 pt2} (hc : X.calm = true) (hN : X.N.Nodup) (hi : X.N[i]? = some x) (hj : X.N[j]? = some y) (hij : i ≠ j)
    (hx : X.env.scope.names.lookup x = some .local) (hy : X.env.scope.names.lookup y = some .local) (ha : DE X a ta) (hb : DE X b tb)
    (hw : swappedStores [.Tuple [.Name x px, .Name y py] kt pt] (.Tuple [a, b] k2 pt2) X.env = pure (some [x, y]))
    (hs : swapsWithSole [.Tuple [.Name x px, .Name y py] kt pt] (.Tuple [a, b] k2 pt2) pos.line X.env = pure false := by rfl)
    (h1 : starEach [a, b] X.env = (false, eval a X.env) :: starEach [b] X.env := by rfl) (h2 : starEach [b] X.env = (false, eval b X.env) :: starEach [] X.env := by rfl) :
    DS X (.Assign [.Tuple [.Name x px, .Name y py] kt pt] (.Tuple [a, b] k2 pt2) pos) (dPar2 i j ta tb) :=
  toS (ps_par hc hN hi hj hij hx hy (pa_cons ha (pa_cons hb pa_nil h2) h1) hw hs) fun D σ H ⟨F, en, G, D1, rl, q, fin⟩ => ⟨F, en, G, _, rl, q, fun x1 H1 G1 r1 en1 s1 R1 ok1 l1 q1 => by
    have go : ∀ (F' : Fr) (R1' : Rl F' en1 σ H1 G1) (K : ∀ (y1 : V) (H2 G2 : Hp) (r2 : Rv) (en2 : Ev), Same G1 G2 → Rl F' en2 σ H2 G2 → Ok F' H2 G2 y1 r2 → Lone en2 σ y1 r2 → (r1 ≠ .non ∧ D1.nx ((en2.set i r1).set j r2)) → D.nx ((σ.set i (some x1)).set j (some y1)) H2),
        lift tb σ H1 fun y1 H2 => ∃ u v : V, [x1, y1] = [u, v] ∧ D.nx ((σ.set i (some u)).set j (some v)) H2 := fun F' R1' K =>
      ⟨F', en1, G1, _, R1', q1, fun y1 H2 G2 r2 en2 s2 R2 ok2 l2 q2 => ⟨x1, y1, rfl, K y1 H2 G2 r2 en2 s2 R2 ok2 l2 q2⟩⟩
    cases r1 with
    | non => exact go F R1 fun y1 H2 G2 r2 en2 s2 R2 ok2 l2 q2 => absurd rfl q2.1
    | v d => exact go F R1 fun y1 H2 G2 r2 en2 s2 R2 ok2 l2 q2 => fin.nx _ _ H2 G2 (s1.trans s2) ((R2.asg i (r := .v d) (x := x1) (Dv.same s2 ok1) fun _ e => by cases e).asg j ok2 fun c e k c' ek ez => by
        rcases get_set ek with ⟨_, _, w⟩ | ⟨hk, ek⟩
        · cases w
        · rw [List.getElem?_set_ne (Ne.symm hk)] at ez
          exact l2 c e k c' ek ez) q2.2
    | deck => exact go F R1 fun y1 H2 G2 r2 en2 s2 R2 ok2 l2 q2 => fin.nx _ _ H2 G2 (s1.trans s2) ((R2.asg i (r := .deck) (x := x1) ok1 fun _ e => by cases e).asg j ok2 fun c e k c' ek ez => by
        rcases get_set ek with ⟨_, _, w⟩ | ⟨hk, ek⟩
        · cases w
        · rw [List.getElem?_set_ne (Ne.symm hk)] at ez
          exact l2 c e k c' ek ez) q2.2
    | glb w => exact go F R1 fun y1 H2 G2 r2 en2 s2 R2 ok2 l2 q2 => fin.nx _ _ H2 G2 (s1.trans s2) ((R2.asg i (r := .glb w) (x := x1) ok1 fun _ e => by cases e).asg j ok2 fun c e k c' ek ez => by
        rcases get_set ek with ⟨_, _, w⟩ | ⟨hk, ek⟩
        · cases w
        · rw [List.getElem?_set_ne (Ne.symm hk)] at ez
          exact l2 c e k c' ek ez) q2.2
    | ab A => exact go F R1 fun y1 H2 G2 r2 en2 s2 R2 ok2 l2 q2 => fin.nx _ _ H2 G2 (s1.trans s2) ((R2.asg i (r := .ab A) (x := x1) (A.mono s2 ok1) fun _ e => by cases e).asg j ok2 fun c e k c' ek ez => by
        rcases get_set ek with ⟨_, _, w⟩ | ⟨hk, ek⟩
        · cases w
        · rw [List.getElem?_set_ne (Ne.symm hk)] at ez
          exact l2 c e k c' ek ez) q2.2
    | own c =>
      obtain ⟨a1, o1, rfl, g1, g2, g3, g4, g5⟩ := ok1
      refine go (F.add a1 o1) (R1.hold g1 g3 g4 (l1 c rfl)) fun y1 H2 G2 r2 en2 s2 R2 ok2 l2 q2 => ?_
      obtain ⟨R3, e3, n3, ap3⟩ := R2.unhold g2.nt R1.d0 g5 g4 (R1.st.part.free g3)
      obtain ⟨ok3, ne3⟩ := ok2.unadd g5
      have ok4 : Ok F H2 G2 (.ref a1) (.own c) := ⟨a1, o1, rfl, e3, g2.same s2, n3, g4, g5⟩
      refine fin.nx _ _ H2 G2 (s1.trans s2) ((R3.asg i ok4 fun _ _ => ap3).asg j ok3 fun c2 e k c' ek ez => ?_) q2.2
      rcases get_set ek with ⟨hk, hl, w⟩ | ⟨hk, ek⟩
      · subst hk
        rw [List.getElem?_set_self (by rw [← R3.len]; exact hl)] at ez
        exact ne3 c2 e (Option.some.inj (Option.some.inj ez)).symm
      · rw [List.getElem?_set_ne (Ne.symm hk)] at ez
        exact l2 c2 e k c' ek ez⟩
end
/-! ### a, b, c = x, y, z, all of them data -/
def asR3 : List Rv → (Rv → Rv → Rv → Prop) → Prop
  | [r, q, s], P => P r q s
  | _, _ => False
def dPar3 (i j l : Nat) (t : DTA) : DTS := fun D en => t en fun rs en1 => asR3 rs fun r q s => D.nx (((en1.set i r).set j q).set l s)
section
variable {X : Cx}
theorem dsPar3 {i j l : Nat} {x y z : Str} {a b c : Expr} {ta : DTA} {px py pz pt pos : Pos} {kt k2 pt2} (hc : X.calm = true) (hN : X.N.Nodup) (hi : X.N[i]? = some x) (hj : X.N[j]? = some y) (hl : X.N[l]? = some z) (hij : i ≠ j) (hil : i ≠ l) (hjl : j ≠ l)
    (hx : X.env.scope.names.lookup x = some .local) (hy : X.env.scope.names.lookup y = some .local) (hz : X.env.scope.names.lookup z = some .local) (ha : DA X [a, b, c] ta)
    (hw : swappedStores [.Tuple [.Name x px, .Name y py, .Name z pz] kt pt] (.Tuple [a, b, c] k2 pt2) X.env = pure (some [x, y, z]))
    (hs : swapsWithSole [.Tuple [.Name x px, .Name y py, .Name z pz] kt pt] (.Tuple [a, b, c] k2 pt2) pos.line X.env = pure false := by rfl) :
    DS X (.Assign [.Tuple [.Name x px, .Name y py, .Name z pz] kt pt] (.Tuple [a, b, c] k2 pt2) pos) (dPar3 i j l ta) :=
  toS (ps_par3 hc hN hi hj hl hij hil hjl hx hy hz ha hw hs) fun D σ H ⟨F, en, G, D1, rl, q, fin⟩ => ⟨F, en, G, _, rl, q, fun xs H1 G1 rs en1 s1 R1 ok q => by
    unfold asR3 at q
    split at q
    · next r r2 r3 =>
      obtain ⟨x, h1, k1, n1⟩ := ok.get (i := 0) rfl
      obtain ⟨y, h2, k2, n2⟩ := ok.get (i := 1) rfl
      obtain ⟨z, h3, k3, n3⟩ := ok.get (i := 2) rfl
      have hl := ok.len
      match xs, hl with
      | [x', y', z'], _ =>
        simp at h1 h2 h3
        subst h1 h2 h3
        exact ⟨x', y', z', rfl, fin.nx _ _ H1 G1 s1 (((R1.asg i k1 fun c e => absurd e (n1 c)).asg j k2 fun c e => absurd e (n2 c)).asg l k3 fun c e => absurd e (n3 c)) q⟩
    · exact q.elim⟩
end
/-! ### defs with keyword-only values, by their bodies -/
section
variable {K : PySem.W.Frag} {P : Program} {w : World} {base : Heap} {mg : Str → Option Value} {x : Str} {st : Stmt} {f : Addr} {fd : FuncData} {N ps : List Str} {k : Nat} {sp : DSp} {kws : List (Str × V)} {dvs : List V}
theorem _root_.L2.FunD.fnD (D : FunD K x x (defArgs st) (defBody st) (defScope st) dvs kws f fd) (S : FnScope N ps (defScope st)) (many : ∀ rs P, sp rs P → rs.length = ps.length)
    (bd : ∀ (cdv : Value) (A : Around) (outer : List Env) (s : Shared) (H : Hp) (E : XK), (A.deeper (envOfC x (defScope st) s.heap.objs.size f cdv)).guards = some [] → Room k (A.deeper (envOfC x (defScope st) s.heap.objs.size f cdv)) →
      ∃ t, DSs (cxOf CX0 P w K mg base N x (defScope st) f cdv A outer s H E).nox (defBody st) t ∧ ∀ rs P, sp rs P → t ⟨fun _ => P (.v .none), okRet P, fun _ => False, fun _ => False⟩ (startE N rs)) : FnG P w K mg base CX0 (k + 1) f fd ps (spD sp) := by
  obtain ⟨oc, od, dV, kV, doc, pm, an, cdv, ct, osl, rfl, here, code, _, _⟩ := D.ex
  refine fnG_of here code S (fun vs H Q E ⟨F, G, rs, P, B, ok, h, q⟩ => by rw [ok.len]; exact many rs P h) fun A outer s H vs Q E hg hr ⟨F, G, rs, Pr, B, ok, h, q⟩ => ?_
  obtain ⟨t, h1, h2⟩ := bd cdv A outer s H E hg hr
  exact ⟨_, PSs.nox h1, F.at H G, startE N rs, G, _, rl_start B ok, h2 rs Pr h, fin_end q⟩
/-- a def with one keyword-only value, an empty tuple, as the top has left it -/
def DefAtKT (K : PySem.W.Frag) (x : Str) (st : Stmt) (y : Str) : Prop := ∃ (f : Addr) (oc : Value) (od : Option Addr) (kD : Addr) (doc pm : Value) (an : Option Addr) (cdv ct : Value) (osl : Array (Option Value)) (a : Addr) (ad : Option Addr) (n : Nat) (asl : Array (Option Value)),
  PySem.W.nsIn K mainGlobals x = some (some (.ref f)) ∧ K.lookup f = some ⟨oc, od, .func (PySem.W.fnOf x x (defArgs st) (defBody st) (defScope st) .none (.ref kD) doc pm an cdv ct), osl⟩ ∧ PySem.W.codeIn K cdv x = true ∧ PySem.W.keepIn K (.ref f) = true ∧
  PySem.W.nsIn K kD y = some (some (.ref a)) ∧ K.lookup a = some ⟨.type "tuple", ad, .seq #[] n, asl⟩
theorem DefAtKT.mk {K : PySem.W.Frag} {x : Str} {st : Stmt} {y : Str} {f : Addr} {oc : Value} {od : Option Addr} {kD : Addr} {doc pm : Value} {an : Option Addr} {cdv ct : Value} {osl : Array (Option Value)} {a : Addr} {ad : Option Addr} {n : Nat} {asl : Array (Option Value)}
    (h1 : PySem.W.nsIn K mainGlobals x = some (some (.ref f))) (l : K.lookup f = some ⟨oc, od, .func (PySem.W.fnOf x x (defArgs st) (defBody st) (defScope st) .none (.ref kD) doc pm an cdv ct), osl⟩) (c : PySem.W.codeIn K cdv x = true) (k : PySem.W.keepIn K (.ref f) = true)
    (v : PySem.W.nsIn K kD y = some (some (.ref a))) (e : K.lookup a = some ⟨.type "tuple", ad, .seq #[] n, asl⟩) : DefAtKT K x st y :=
  ⟨f, oc, od, kD, doc, pm, an, cdv, ct, osl, a, ad, n, asl, h1, l, c, k, v, e⟩
theorem DefAtKT.df {K : PySem.W.Frag} {x : Str} {st : Stmt} {y : Str} {h : Heap} {mg : Str → Option Value} (X : K.In h) (G : h.Ns mainGlobals mg) (A : DefAtKT K x st y) : ∃ f kD doc pm an cdv ct a, FunD K x x (defArgs st) (defBody st) (defScope st) [] [(y, .ref a)] f (PySem.W.fnOf x x (defArgs st) (defBody st) (defScope st) .none (.ref kD) doc pm an cdv ct) ∧ mg x = some (.ref f) ∧ TupG K (.ref a) [] := by
  obtain ⟨f, oc, od, kD, doc, pm, an, cdv, ct, osl, a, ad, n, asl, h1, l, c, k, v, e⟩ := A
  refine ⟨f, kD, doc, pm, an, cdv, ct, a, ⟨⟨oc, od, .none, .ref kD, doc, pm, an, cdv, ct, osl, rfl, l, c, .inl ⟨rfl, rfl⟩, .inr ⟨kD, rfl, fun q hq => ?_⟩⟩, k⟩, PySem.W.mg_of X G h1, a, [], rfl, fun H => .inr ⟨_, #[], n, e, rfl, rfl, Nat.zero_le _, .nil⟩, fun _ => .nil, rfl⟩
  rw [List.mem_singleton.mp hq]
  exact ⟨_, v, rfl⟩
end
end Vf
set_option backward.eqns.nonrecursive true
namespace Vf
open PySem L2 PyProof.Rows PySem.Spec
/-! ## readings by values: {a tuple: True for .. in ..}, a tuple in such a dict, list of it -/
theorem Rl.freezeO {F : Fr} {en : Ev} {σ : L2.St} {H G : Hp} {a : Addr} {o : HO} (R : Rl F en σ H G) (e : H a = some o) (n : G a = none) (d : ¬ F.dk a) (n0 : F.H0 a = none) (ap : Apart en σ (.ref a)) :
    Same G (upd G a o) ∧ Rl F en σ H (upd G a o) := by
  have s : Same G (upd G a o) := same_upd n
  have sub : Same (upd G a o) H := fun b u eb => by
    by_cases hb : b = a
    · subst hb
      rw [upd_same] at eb
      rw [e]
      exact eb
    · rw [upd_ne hb] at eb
      exact R.bs.sub _ _ eb
  have nd : ∀ b, F.dk b → upd G a o b = none := fun b hb => by
    rw [upd_ne fun z => d (by rw [← z]; exact hb)]
    exact R.bs.nd b hb
  have only : ∀ b, b ≠ a → G b = none → upd G a o b = none := fun b hb h2 => by
    rw [upd_ne hb]
    exact h2
  refine ⟨s, R.d0, ⟨R.bs.dok, sub, nd⟩, ⟨R.st.dok, R.st.big, sub, nd, R.st.part.trans s, fun b u h1 h2 h3 => only b (fun z => by rw [z, n0] at h1; cases h1) (R.st.only b u h1 h2 h3)⟩, fun i r ei nr => ?_, R.dist, R.len⟩
  obtain ⟨x, e1, k⟩ := R.slot i r ei nr
  refine ⟨x, e1, ?_⟩
  cases r with
  | non => trivial
  | v d => exact Dv.same s k
  | own c' =>
    obtain ⟨b, o', rfl, h1, h2, h3, h4, h5⟩ := k
    exact ⟨b, o', rfl, h1, h2.same s, only b (fun z => ap i c' ei (by rw [e1, z])) h3, h4, h5⟩
  | deck => exact k
  | glb v => exact k
  | ab A => exact A.mono s k
theorem _root_.L2.Room.u8 {k : Nat} {A : Around} (r : Room k A) : A.units + 8 < cLine := by have := r.un; omega
theorem _root_.L2.Room.u9 {k : Nat} {A : Around} (r : Room k A) : A.units + 8 + 1 < cLine := by have := r.un; omega
/-! ### data in a tuple of data -/
def inSDT (neg : Bool) : S2
  | d, .tuple ds, P => (SeqAt.shaped d = true ∧ SeqAt.shaped (.tuple ds) = true) ∧ P (.bool (neg ^^ inD d ds))
  | _, _, _ => False
theorem pInTT {X : Cx} (hu : X.A.units + 65 < cLine) : OpR X (compareOp .In) (liftP2 (inSDT false)) := fun pins s σ H x y v u R I rx ry ⟨G, dx, dy, P, sm, v1, v2, q, fin⟩ => by
  unfold inSDT at q
  split at q
  · obtain ⟨⟨s1, s2⟩, q⟩ := q
    obtain ⟨as, r1⟩ := Dp.reads I _ x v (dvDpS (v1.same sm) s1) rx
    obtain ⟨bs, r2⟩ := Dp.reads I _ y u (dvDpS (v2.same sm) s2) ry
    exact SeqAt.in_tuple_reads r2 r1 (SeqAt.canLay_of_shaped s2) (SeqAt.canLay_of_shaped s1) (room_in_shaped s1 hu) ⟨.bl _, H, I, rfl, fin _ _ q fun _ => by rw [Bool.false_xor]; exact .bl _⟩
  · exact q.elim
/-! ### the keys -/
def KeysAre (G : Hp) : KdX → List (List PyData) → Prop
  | [], [] => True
  | p :: xs, ds :: ks => (Dv G (.ref p.2.1) (.tuple ds) ∧ ds.all flatN = true ∧ p.1 = nkT ds) ∧ KeysAre G xs ks
  | [], _ :: _ => False
  | _ :: _, [] => False
def hasK (ks : List (List PyData)) (ds : List PyData) : Bool := ks.any fun e => decide (nkT e = nkT ds)
def addK (ks : List (List PyData)) (ds : List PyData) : List (List PyData) := if hasK ks ds = true then ks else ks ++ [ds]
theorem KeysAre.same {G G' : Hp} (s : Same G G') : ∀ {xs : KdX} {ks : List (List PyData)}, KeysAre G xs ks → KeysAre G' xs ks
  | [], [], _ => trivial
  | _ :: _, _ :: _, ⟨⟨a, b, c⟩, h⟩ => ⟨⟨a.same s, b, c⟩, h.same s⟩
  | [], _ :: _, h => h.elim
  | _ :: _, [], h => h.elim
theorem KeysAre.len {G : Hp} : ∀ {xs : KdX} {ks : List (List PyData)}, KeysAre G xs ks → xs.length = ks.length
  | [], [], _ => rfl
  | _ :: _, _ :: _, ⟨_, h⟩ => congrArg (· + 1) h.len
  | [], _ :: _, h => h.elim
  | _ :: _, [], h => h.elim
theorem KeysAre.ok {G : Hp} : ∀ {xs : KdX} {ks : List (List PyData)}, KeysAre G xs ks → KeysOk G xs
  | [], [], _, p, hp => absurd hp List.not_mem_nil
  | q :: xs, ds :: ks, ⟨a, h⟩, p, hp => by
    rcases List.mem_cons.mp hp with rfl | hp
    · exact ⟨ds, a⟩
    · exact h.ok p hp
  | [], _ :: _, h, _, _ => h.elim
  | _ :: _, [], h, _, _ => h.elim
theorem KeysAre.find {G : Hp} {ds : List PyData} : ∀ {xs : KdX} {ks : List (List PyData)}, KeysAre G xs ks → (atKey xs (nkT ds)).isSome = hasK ks ds
  | [], [], _ => rfl
  | p :: xs, e :: ks, ⟨⟨_, _, c⟩, h⟩ => by
    have ih := h.find (ds := ds)
    unfold atKey hasK at ih ⊢
    rw [List.find?_cons, List.any_cons, c]
    by_cases hk : nkT e = nkT ds
    · rw [decide_eq_true hk]
      rfl
    · rw [decide_eq_false hk, Bool.false_or]
      exact ih
  | [], _ :: _, h => h.elim
  | _ :: _, [], h => h.elim
theorem KeysAre.snoc {G : Hp} {k : NestedKey} {b : Addr} {v : Value} {ds : List PyData} (d : Dv G (.ref b) (.tuple ds) ∧ ds.all flatN = true ∧ k = nkT ds) : ∀ {xs : KdX} {ks : List (List PyData)}, KeysAre G xs ks → KeysAre G (xs ++ [(k, b, v)]) (ks ++ [ds])
  | [], [], _ => ⟨d, trivial⟩
  | _ :: _, _ :: _, ⟨a, h⟩ => ⟨a, h.snoc d⟩
  | [], _ :: _, h => h.elim
  | _ :: _, [], h => h.elim
theorem KeysAre.put {G : Hp} {k : NestedKey} {v : Value} : ∀ {xs : KdX} {ks : List (List PyData)}, KeysAre G xs ks → KeysAre G (xs.map (putAt k v)) ks
  | [], [], _ => trivial
  | p :: _, _ :: _, ⟨a, h⟩ => by
    refine ⟨?_, h.put⟩
    unfold putAt
    split <;> exact a
  | [], _ :: _, h => h.elim
  | _ :: _, [], h => h.elim
theorem KeysAre.stored {G : Hp} {xs : KdX} {ks : List (List PyData)} {b : Addr} {v : Value} {ds : List PyData} (h : KeysAre G xs ks) (d : Dv G (.ref b) (.tuple ds)) (f : ds.all flatN = true) : KeysAre G (storedH xs (nkT ds) b v) (addK ks ds) := by
  unfold storedH addK
  rw [← h.find]
  by_cases c : (atKey xs (nkT ds)).isSome = true
  · rw [if_pos c, if_pos c]
    exact h.put
  · rw [if_neg c, if_neg c]
    exact h.snoc ⟨d, f, rfl⟩
theorem KeysAre.refs {G : Hp} : ∀ {xs : KdX} {ks : List (List PyData)}, KeysAre G xs ks → DvAll G (xs.map fun y => V.ref y.2.1) (ks.map .tuple)
  | [], [], _ => .nil
  | _ :: _, _ :: _, ⟨a, h⟩ => .cons a.1 h.refs
  | [], _ :: _, h => h.elim
  | _ :: _, [], h => h.elim
def kdA (P : Program) (w : World) (ks : List (List PyData)) : Ab where
  φ := fun G x => ∃ (D : Addr) (o : Obj) (xs : KdX), x = .ref D ∧ G D = some (.frz o (kdO P w D xs)) ∧ KeysAre G xs ks
  mono := fun s ⟨D, o, xs, e, h, k⟩ => ⟨D, o, xs, e, s _ _ h, k.same s⟩
/-! ### the comprehension -/
section
variable {P : Program} {w : World}
structure Kcs (P : Program) (w : World) (F : Fr) (G1 : Hp) (σ : L2.St) (Dd : Addr) (vs : List Nat) (e : Ev) (acc : List (List PyData)) (H : Hp) : Prop where
  ex : ∃ (G2 : Hp) (xs : KdX), Same G1 G2 ∧ Rl F e (wipe σ vs) H G2 ∧ H Dd = some (kdO P w Dd xs) ∧ KeysAre G2 xs acc ∧ G2 Dd = none ∧ ¬ F.dk Dd ∧ F.H0 Dd = none ∧ Apart e (wipe σ vs) (.ref Dd) ∧ ∀ i r, i ∈ vs → e[i]? = some r → r = .non
theorem kcs_new {F : Fr} {en : Ev} {σ : L2.St} {H G : Hp} {Dd : Addr} {vs : List Nat} (R : Rl F en σ H G) (n : H Dd = none) : Kcs P w F G σ Dd vs (wipeE en vs) [] (upd H Dd (kdO P w Dd [])) := by
  have S := R.bs.same (same_upd (o := kdO P w Dd []) n)
  have Rw := (R.step S).wiped (vs := vs) (σ' := wipe σ vs) (wipe_length σ vs) fun i hi => wipe_out hi
  have n0 : F.H0 Dd = none := by
    cases e : F.H0 Dd with
    | none => rfl
    | some u => exact absurd n (R.st.still R.d0 (by rw [e]; nofun))
  exact ⟨G, [], Same.refl G, Rw, upd_same, trivial, R.bs.sub.free n, fun d => F.has _ _ R.bs.dok d n, n0, (R.apart n).wipe fun i hi => wipe_out hi, fun i r hi e => wipeE_in hi e⟩
theorem kcs_end {F : Fr} {e : Ev} {σ : L2.St} {H G1 : Hp} {Dd : Addr} {vs : List Nat} {acc : List (List PyData)} (h : Kcs P w F G1 σ Dd vs e acc H) : ∃ G2 xs, Same G1 G2 ∧ Same G2 H ∧ H Dd = some (kdO P w Dd xs) ∧ ∀ o, ∃ G3, Same G2 G3 ∧ Rl F e σ (upd H Dd (.frz o (kdO P w Dd xs))) G3 ∧ Ok F (upd H Dd (.frz o (kdO P w Dd xs))) G3 (.ref Dd) (.ab (kdA P w acc)) := by
  obtain ⟨G2, xs, s, R, e1, dv, n, nk, n0, ap, out⟩ := h.ex
  have ho : ∀ i, i ∉ vs → σ[i]? = (wipe σ vs)[i]? := fun i hi => (wipe_out hi).symm
  have Re : Rl F e σ H G2 := by
    refine ⟨R.d0, R.bs, R.st, fun i r ei nr => ?_, fun i j c c' h1 h2 h3 => ?_, by rw [R.len, wipe_length]⟩
    · by_cases hi : i ∈ vs
      · exact absurd (out i r hi ei) nr
      · rw [ho i hi]
        exact R.slot i r ei nr
    · have hi : i ∉ vs := fun z => by cases out i _ z h1
      have hj : j ∉ vs := fun z => by cases out j _ z h2
      rw [ho i hi, ho j hj] at h3
      exact R.dist i j c c' h1 h2 h3
  have ape : Apart e σ (.ref Dd) := fun i c' ei q => by
    have hi : i ∉ vs := fun z => by cases out i _ z ei
    rw [ho i hi] at q
    exact ap i c' ei q
  refine ⟨G2, xs, s, R.bs.sub, e1, fun o => ?_⟩
  have Rb := Re.beside (o := .frz o (kdO P w Dd xs)) n nk n0 ape
  obtain ⟨s2, R2⟩ := Rb.freezeO upd_same n nk n0 ape
  exact ⟨_, s2, R2, Dd, o, xs, rfl, upd_same, dv.same s2⟩
theorem kcs_held {F : Fr} {e : Ev} {σ σ2 : L2.St} {H G G1 : Hp} {Dd : Addr} {vs : List Nat} {acc : List (List PyData)} {xs : KdX} (R : Rl (F.add Dd (kdO P w Dd xs)) e σ2 H G) (d0 : F.dok F.H0) (s : Same G1 G) (dv : KeysAre G xs acc) (nk : ¬ F.dk Dd) (n0 : F.H0 Dd = none) (ng : F.G0 Dd = none) (hw : wipe σ2 vs = wipe σ vs) :
    H Dd = some (kdO P w Dd xs) ∧ (∀ ys bc, KeysAre G ys bc → Kcs P w F G1 σ Dd vs (wipeE e vs) bc (upd H Dd (kdO P w Dd ys))) ∧ Kcs P w F G1 σ Dd vs (wipeE e vs) acc H := by
  obtain ⟨R', e1, n, ap⟩ := R.unhold (fun _ => nofun) d0 n0 nk ng
  have go : ∀ (ys : KdX) (bc : List (List PyData)), KeysAre G ys bc → Kcs P w F G1 σ Dd vs (wipeE e vs) bc (upd H Dd (kdO P w Dd ys)) := fun ys bc h => by
    have Rb := R'.beside (o := kdO P w Dd ys) n nk n0 ap
    have Rw := Rb.wiped (vs := vs) (σ' := wipe σ2 vs) (wipe_length σ2 vs) fun i hi => wipe_out hi
    rw [hw] at Rw
    have apw := ap.wipe (vs := vs) (σ' := wipe σ2 vs) fun i hi => wipe_out hi
    rw [hw] at apw
    exact ⟨G, ys, s, Rw, upd_same, h, n, nk, n0, apw, fun i r hi e => wipeE_in hi e⟩
  refine ⟨e1, go, ?_⟩
  have h := go xs acc dv
  have eq : upd H Dd (kdO P w Dd xs) = H := by
    funext b
    by_cases hb : b = Dd
    · rw [hb, upd_same, e1]
    · exact upd_ne hb
  rw [eq] at h
  exact h
def dDcT (P : Program) (w : World) (di : DTI) (g : DTG) (tt : DTT) (tk : DTE) (vs : List Nat) : DTE := fun en Q => di en fun ds en1 => ∃ K : Nat → List (List PyData) → Ev → Prop, K 0 [] (wipeE en1 vs) ∧
  (∀ i d acc e, ds[i]? = some d → K i acc e → g (.v d) e fun e2 => tt e2 fun b e3 => if b = true then tk e3 fun r e4 => asD r fun y => asTup y fun ks => ks.all flatN = true ∧ acc.length < sizeLine ∧ K (i + 1) (addK acc ks) (wipeE e4 vs) else K (i + 1) acc (wipeE e3 vs)) ∧
  ∀ acc e, K ds.length acc e → Q (.ab (kdA P w acc)) e
theorem lift_dcT {di : DTI} {js : List Nat} {g : DTG} {tt : DTT} {tk : DTE} {vs : List Nat} {σ : L2.St} {H : Hp} {R : VK} (hj : ∀ i ∈ js, i ∈ vs) (h : lift (dDcT P w di g tt tk vs) σ H R) : tDcT P w (liftI di) (liftG js g) (liftT tt) (lift tk) (tC (.bl true)) vs σ H R := by
  obtain ⟨F, en, G, Q, rl, h, fin⟩ := h
  refine ⟨F, en, G, _, rl, h, fun J H1 G1 ds en1 s1 R1 st ⟨K, p0, step, last⟩ Dd nD => ?_⟩
  refine ⟨fun i m H => i + m = ds.length ∧ ∃ e acc, Kcs P w F G1 σ Dd vs e acc H ∧ K i acc e, ⟨ds.length, Nat.zero_add _, _, _, kcs_new R1 nD, p0⟩, ?_⟩
  rintro i m H2 ⟨em, e2, acc, lc, p2⟩
  cases m with
  | zero =>
    have e : i = ds.length := by omega
    subst e
    obtain ⟨G2, xs, s2, R2s, e1, more⟩ := kcs_end lc
    refine .inl ⟨st.stop H2 (s2.trans R2s), xs, e1, fun o => ?_⟩
    obtain ⟨G3, s3, R3, ok3⟩ := more o
    exact fin _ _ G3 _ e2 ((s1.trans s2).trans s3) R3 ok3 (fun _ z => by cases z) (last acc e2 p2)
  | succ m =>
    have hi : i < ds.length := by omega
    obtain ⟨G2, xs, s2, R2, e1, dv, n, nk, n0, ap, out⟩ := lc.ex
    refine .inr ⟨st.go i H2 hi (s2.trans R2.bs.sub), fun H' => ∃ e acc, Kcs P w F G1 σ Dd vs e acc H' ∧ K (i + 1) acc e, fun H' h => ⟨m, Nat.lt_succ_self _, by omega, h⟩, fun x H3 y => ?_⟩
    obtain ⟨G3, d, S, dx, ed⟩ := st.yld i H2 G2 x H3 hi R2.bs s2 y
    have s3 := s2.trans S.part
    have R3 := R2.step S
    have e3 := S.big _ _ e1 nk
    have n3 := S.only _ _ e1 (fun _ => nofun) n
    have Rh := R3.hold e3 n3 nk ap
    have ng : F.G0 Dd = none := by
      cases z : F.G0 Dd with
      | none => rfl
      | some u => rw [R3.st.part _ _ z] at n3; cases n3
    have dv3 := dv.same S.part
    refine ⟨F.add Dd (kdO P w Dd xs), e2, G3, .v d, _, Rh, dx, (fun _ z => by cases z), step i d acc e2 ed p2, fun σ4 e4 H4 G4 s4 R4 o4 q4 => ?_⟩
    have hl4 : σ4.length = (wipe σ vs).length := o4.1
    have hw : wipe σ4 vs = wipe σ vs := by
      rw [wipe_eq (σ := wipe σ vs) hl4 fun j hjv => o4.2 j fun z => hjv (hj j z)]
      exact wipe_eq (wipe_length σ vs) fun j hjv => wipe_out hjv
    refine ⟨hw, _, e4, G4, _, R4, q4, fun b H5 G5 e5 s5 R5 q5 => ?_⟩
    cases b with
    | true =>
      rw [if_pos rfl] at q5 ⊢
      refine lift_data R5 q5 fun z H6 G6 y' e6 s6 R6 dz q6 => ?_
      cases y' with
      | tuple ds6 =>
        obtain ⟨fl, hz, p6⟩ := q6
        cases dz with
        | @tup b6 ys6 _ eb vb =>
          have dz : Dv G6 (.ref b6) (.tuple ds6) := .tup eb vb
          have dv6 := ((dv3.same s4).same s5).same s6
          obtain ⟨h1, h2, -⟩ := kcs_held (G1 := G1) (vs := vs) R6 R3.d0 (((s3.trans s4).trans s5).trans s6) dv6 nk n0 ng hw
          exact ⟨xs, b6, ds6, true, rfl, rfl, dz.same R6.bs.sub, fl, (dv6.same R6.bs.sub).ok, h1, by rw [dv.len]; exact hz, _, _, h2 _ _ (dv6.stored dz fl), p6⟩
      | _ => exact q6.elim
    | false =>
      rw [if_neg Bool.false_ne_true] at q5 ⊢
      obtain ⟨-, -, h3⟩ := kcs_held (G1 := G1) (vs := vs) R5 R3.d0 ((s3.trans s4).trans s5) ((dv3.same s4).same s5) nk n0 ng hw
      exact ⟨_, _, h3, q5⟩
end
section
variable {X : Cx} {kx tg iter : Expr} {ifs : List Expr} {scope : Scope} {own : List (Str × Nat)} {pos cpos : Pos} {j : Nat} {di : DTI} {g : DTG} {js : List Nat} {tt : DTT} {tk : DTE}
theorem dDcTE (hu : X.A.units + 8 < cLine) (hc : X.calm = true) (hN : X.N.Nodup) (hi : DI X tg iter di) (ok : BlkOk X.N X.env.scope scope own) (hj : ∀ i ∈ js, i ∈ own.map (·.2))
    (hg : ∀ (s : Shared) (H : Hp) (C : Addr) (cl : List (Str × Addr)) (fp : List Addr), DG (X.blk s H scope (compEnvC scope cl C X.env) fp) tg js g) (ht : ∀ (s : Shared) (H : Hp) (C : Addr) (cl : List (Str × Addr)) (fp : List Addr), DTs (X.blk s H scope (compEnvC scope cl C X.env) fp) ifs tt)
    (hk : ∀ (s : Shared) (H : Hp) (C : Addr) (cl : List (Str × Addr)) (fp : List Addr), DE (X.blk s H scope (compEnvC scope cl C X.env) fp) kx tk) (hs : ∀ x, foldedSetIterable iter X.env x = pure x := by intro _; rfl) :
    DE X (.DictComp kx (.Constant (.bool true) j cpos) [⟨tg, iter, ifs, 0⟩] scope pos) (dDcT X.prog X.w di g tt tk (own.map (·.2))) :=
  toE (pe_dcT hu hc hN hi ok hg ht hk (fun _ _ _ _ _ => pe_bl) hs) fun σ H R h => lift_dcT hj h
/-- a tuple in what such a dict's name has -/
def asKd (P : Program) (w : World) : Rv → (List (List PyData) → Prop) → Prop := fun r C => ∃ ks, r = .ab (kdA P w ks) ∧ C ks
def dInKd (P : Program) (w : World) (ta tb : DTE) : DTE := fun en Q => ta en fun r1 en1 => asD r1 fun d1 => asTup d1 fun ds => tb en1 fun r2 en2 => asKd P w r2 fun ks => ds.all flatN = true ∧ Q (.v (.bool (hasK ks ds))) en2
theorem lift_inKd {P : Program} {w : World} {ta tb : DTE} {σ : L2.St} {H : Hp} {R : VK} (h : lift (dInKd P w ta tb) σ H R) : tOp (rInKd P w) (lift ta) (lift tb) σ H R := by
  obtain ⟨F, en, G, Q, rl, h, fin⟩ := h
  refine lift_data rl h fun y H2 G2 d2 en2 s2 R2 v2 h2 => ?_
  cases d2 with
  | tuple ds =>
    cases v2 with
    | @tup b ys _ eb vb =>
      refine ⟨F, en2, G2, _, R2, h2, fun z H3 G3 r3 en3 s3 R3 ok3 l3 q3 => ?_⟩
      obtain ⟨ks, rfl, fl, q⟩ := q3
      obtain ⟨D, o, xs, rfl, eD, ka⟩ := ok3
      have dv : Dv G3 (.ref b) (.tuple ds) := (Dv.tup eb vb).same s3
      refine ⟨D, b, o, xs, ds, rfl, rfl, R3.bs.sub _ _ eD, (ka.same R3.bs.sub).ok, dv.same R3.bs.sub, fl, ?_⟩
      rw [ka.find]
      exact fin.v (s2.trans s3) R3 (.bl _) q
  | _ => exact h2.elim
variable {a b : Expr} {ta tb : DTE}
theorem dInKdE (hu : X.A.units + 8 + 1 < cLine) (ha : DE X a ta) (hb : DE X b tb) (hm : behindInMarks .In b = false) : DE X (.Compare a [.In] [b] pos) (dInKd X.prog X.w ta tb) := toE (pe_cmpR (op_in_kd' hu) ha hb hm) fun _ _ _ => lift_inKd
theorem dtInKdE (hu : X.A.units + 8 + 1 < cLine) (ha : DE X a ta) (hb : DE X b tb) (hm : behindInMarks .In b = false) : DT X (.Compare a [.In] [b] pos) (dTest (dInKd X.prog X.w ta tb)) :=
  toT (pt_cmpR (op_in_kd' hu) ha hb hm) fun σ H R ⟨F, en, G, Q, rl, h, fin⟩ => lift_inKd (lift_data rl h fun x H1 G1 d en1 s1 R1 v1 h1 => by
    cases v1 with
    | bl b => exact ⟨b, rfl, fin b H1 G1 en1 s1 R1 h1⟩
    | _ => exact False.elim h1)
/-- list(d) -/
def dListKd (P : Program) (w : World) (ta : DTE) : DTE := fun en Q => ta en fun r en1 => asKd P w r fun ks => Q (.own (.lst (ks.map .tuple))) en1
theorem dListKdE {p : Pos} (hc : X.calm = true) (hg : Gl X "list") (hm : X.mg "list" = none) (ha : DE X a ta) (he : starEach [a] X.env = (false, eval a X.env) :: starEach [] X.env := by rfl) (hpl : (backTo pos (starEach [] X.env)).any (·.1) = false := by rfl) :
    DE X (.Call (.Name "list" p) [a] [] pos) (dListKd X.prog X.w ta) :=
  toE (pe_callTy (call_list_kd hc) hg hm (by decide +kernel) (pa_cons ha pa_nil he) (by decide) (by decide) he hpl) fun σ H R ⟨F, en, G, Q, rl, h, fin⟩ => ⟨F, en, G, _, rl, h, fun x H1 G1 r en1 s1 R1 ok1 l1 q1 => by
    obtain ⟨ks, rfl, q⟩ := q1
    obtain ⟨D, o, xs, rfl, eD, ka⟩ := ok1
    refine ⟨D, o, xs, rfl, R1.bs.sub _ _ eD, fun p n => ?_⟩
    have S := R1.bs.same (same_upd (o := .lst (xs.map fun y => V.ref y.2.1)) n)
    obtain ⟨R2, o2, l2⟩ := R1.res' (r := .own (.lst (ks.map .tuple))) (x := .ref p) S ⟨p, _, rfl, n, upd_same, ka.refs, R1.bs.sub.free n⟩
    exact fin _ _ _ _ en1 s1 R2 o2 l2 q⟩
/-- for k in d -/
theorem KeysAre.at {G : Hp} : ∀ {xs : KdX} {ks : List (List PyData)} {i : Nat} {p : NestedKey × Addr × Value}, KeysAre G xs ks → xs[i]? = some p → ∃ ds, ks[i]? = some ds ∧ Dv G (.ref p.2.1) (.tuple ds)
  | [], [], _, _, _, e => by simp at e
  | q :: xs, ds :: ks, 0, p, ⟨a, _⟩, e => by
    simp at e
    subst e
    exact ⟨ds, rfl, a.1⟩
  | q :: xs, ds :: ks, i + 1, p, ⟨_, h⟩, e => by
    obtain ⟨ds, e2, d⟩ := h.at (i := i) (p := p) (by simpa using e)
    exact ⟨ds, by simpa using e2, d⟩
  | [], _ :: _, _, _, h, _ => h.elim
  | _ :: _, [], _, _, h, _ => h.elim
theorem step_kd {P : Program} {w : World} {F : Fr} {D : Addr} {o : Obj} {xs : KdX} {ks : List (List PyData)} {G : Hp} (e : G D = some (.frz o (kdO P w D xs))) (h : KeysAre G xs ks) : DStep F (ItKd P w D o xs) (ks.map .tuple) G where
  stop := fun H s => ⟨s _ _ e, by rw [List.length_map, h.len]; exact Nat.le_refl _⟩
  go := fun i H hi s => ⟨s _ _ e, by rw [h.len]; rw [List.length_map] at hi; exact hi⟩
  yld := fun i H G1 x H' hi b s y => by
    obtain ⟨rfl, p, hp, rfl⟩ := y
    obtain ⟨ds, e2, d⟩ := h.at hp
    exact ⟨G1, .tuple ds, b.refl, d.same s, by rw [List.getElem?_map, e2]; rfl⟩
def dKeysKd (P : Program) (w : World) (ta : DTE) : DTI := fun en Q => ta en fun r en1 => asKd P w r fun ks => Q (ks.map .tuple) en1
theorem diKeysKd (ha : DE X a ta) : DI X tg a (dKeysKd X.prog X.w ta) := toI (pi_kd ha) fun σ H R ⟨F, en, G, Q, rl, h, fin⟩ => ⟨F, en, G, _, rl, h, fun x H1 G1 r en1 s1 R1 ok1 l1 q1 => by
  obtain ⟨ks, rfl, q⟩ := q1
  obtain ⟨D, o, xs, rfl, eD, ka⟩ := ok1
  exact ⟨D, o, xs, rfl, R1.bs.sub _ _ eD, fin _ H1 G1 _ en1 s1 R1 (step_kd eD ka) q⟩⟩
end
end Vf
set_option autoImplicit true
set_option relaxedAutoImplicit true
namespace Vf
open PySem L2 PyProof.Rows PySem.Spec
theorem asD_e1 : asD (.v d) P = (P d) := rfl
theorem asD_e2 : asD (.own c) P = (P c.data) := rfl
theorem rdV_e1 : rdV (some (.v d)) en _ignored2 Q = (Q (.v d) en) := rfl
theorem rdV_e2 : rdV (some (.own c)) en i Q = (Q (.v c.data) (en.set i (.v c.data))) := rfl
theorem rdV_e3 : rdV (some .deck) en _ignored2 Q = (Q .deck en) := rfl
theorem rdV_e4 : rdV (some (.glb v)) en _ignored2 Q = (Q (.glb v) en) := rfl
theorem rdV_e5 : rdV (some (.ab A)) en _ignored2 Q = (Q (.ab A) en) := rfl
theorem asB_e1 : asB (.bool b) P = (P b) := rfl
theorem truD_e1 : truD (.none) P = (P false) := rfl
theorem truD_e2 : truD (.bool b) P = (P b) := rfl
theorem truD_e3 : truD (.int i) P = (P (i != 0)) := rfl
theorem truD_e4 : truD (.str y) P = (y.length ≤ sizeLine ∧ P ((y.length : Int) != 0)) := rfl
theorem truD_e5 : truD (.list ds) P = (P (!ds.isEmpty)) := rfl
theorem truD_e6 : truD (.tuple ds) P = (P (!ds.isEmpty)) := rfl
theorem truD_e7 : truD (.dict kvs) P = (P (!kvs.isEmpty)) := rfl
theorem truR_e1 : truR (some (.v d)) P = (truD d P) := rfl
theorem truR_e2 : truR (some (.own (.lst ds))) P = (P (!ds.isEmpty)) := rfl
theorem truR_e3 : truR (some (.own (.dic kvs))) P = (P (!kvs.isEmpty)) := rfl
theorem asA_e1 : asA (.v d) P = (P (.v d)) := rfl
theorem asA_e2 : asA (.own c) P = (P (.v c.data)) := rfl
theorem asA_e3 : asA (.deck) P = (P .deck) := rfl
theorem asA_e4 : asA (.glb v) P = (P (.glb v)) := rfl
theorem asA_e5 : asA (.ab A) P = (P (.ab A)) := rfl
theorem allD_e1 : allD [] P = (P []) := rfl
theorem allD_e2 : allD (.v d :: rs) P = (allD rs fun ds => P (d :: ds)) := rfl
theorem asTL_e1 : asTL (.tuple ds) P = (P ds) := rfl
theorem asTL_e2 : asTL (.list ds) P = (P ds) := rfl
theorem asTup_e1 : asTup (.tuple ds) P = (P ds) := rfl
theorem isOwnR_e1 : isOwnR (some (.own c0)) = (True) := rfl
theorem putR_e1 : putR (some (.own (.lst ds))) (.int k) P = (P ds k) := rfl
theorem asV_e1 : asV (some (.v d)) P = (P d) := rfl
theorem asSeq_e1 : asSeq (.list ds) P = (P ds) := rfl
theorem asSeq_e2 : asSeq (.tuple ds) P = (P ds) := rfl
theorem asSeq_e3 : asSeq (.str s) P = (P (s.cps.toList.map fun c => .str ⟨#[c]⟩)) := rfl
theorem asI1_e1 : asI1 [.int j] P = (P j) := rfl
theorem asI2_e1 : asI2 [.int i, .int j] P = (P i j) := rfl
theorem sC_e1 {f : S1} : sC f [d] Q = (f d fun z => Q (.v z)) := rfl
theorem sInt_e1 {C : Int → Int → Prop} {g : Int → Int → Int} : sInt C g (.int i) (.int j) P = (C i j ∧ P (.int (g i j))) := rfl
theorem sIntB_e1 {g : Int → Int → Bool} : sIntB g (.int i) (.int j) P = (P (.bool (g i j))) := rfl
theorem sI1_e1 {g : Int → Int} : sI1 g (.int i) P = (P (.int (g i))) := rfl
theorem vAdd_e1 : vAdd (.int i) (.int j) Q = (Q (.v (.int (i + j)))) := rfl
theorem vAdd_e2 : vAdd (.str a) (.str b) Q = (a.length + b.length ≤ sizeLine ∧ Q (.v (.str (a ++ b)))) := rfl
theorem vAdd_e3 : vAdd (.list a) (.list b) Q = (a.length + b.length ≤ sizeLine ∧ Q (.own (.lst (a ++ b)))) := rfl
theorem vAdd_e4 : vAdd (.tuple a) (.tuple b) Q = (a.length + b.length ≤ sizeLine ∧ Q (.v (.tuple (a ++ b)))) := rfl
theorem vMul_e1 : vMul (.int i) (.int j) Q = (CMul i j ∧ Q (.v (.int (i * j)))) := rfl
theorem vMul_e2 : vMul (.str a) (.int n) Q = ((2 ≤ n ∧ n ≤ 1000 ∧ a.length ≠ 0 ∧ a.length ≤ 1000) ∧ Q (.v (.str (repS a n.toNat)))) := rfl
theorem vMul_e3 : vMul (.list a) (.int k) Q = ((-(2 ^ 63) ≤ k ∧ k < 2 ^ 63 ∧ a.length * k.toNat ≤ sizeLine) ∧ Q (.own (.lst (List.replicate k.toNat a).flatten))) := rfl
theorem vMul_e4 : vMul (.tuple a) (.int k) Q = ((a ≠ [] ∧ 0 ≤ k ∧ k ≤ 1000 ∧ a.length ≤ 1000) ∧ Q (.v (.tuple (List.replicate k.toNat a).flatten))) := rfl
theorem eqD_e1 {neg : Bool} : eqD neg (.int i) (.int j) P = (P (.bool (neg ^^ decide (i = j)))) := rfl
theorem eqD_e2 {neg : Bool} : eqD neg (.str a) (.str b) P = (P (.bool (neg ^^ decide (a = b)))) := rfl
theorem eqD_e3 {neg : Bool} : eqD neg (.bool a) (.bool b) P = (P (.bool (neg ^^ decide (a = b)))) := rfl
theorem inSD_e1 {neg : Bool} : inSD neg (.str c) (.str z) P = (∃ a, c = ⟨#[a]⟩ ∧ P (.bool (neg ^^ decide (a ∈ z.cps.toList)))) := rfl
theorem isD_e1 {neg : Bool} : isD neg (.bool a) (.bool b) P = (P (.bool (neg ^^ decide (a = b)))) := rfl
theorem vIx_e1 : vIx (.list ds) (.int j) Q = (∃ z, atI ds j = some z ∧ Q (.v z)) := rfl
theorem vIx_e2 : vIx (.tuple ds) (.int j) Q = (∃ z, atI ds j = some z ∧ Q (.v z)) := rfl
theorem vIx_e3 : vIx (.str y) (.int j) Q = (y.length ≤ sizeLine ∧ ∃ c, atI y.cps.toList j = some c ∧ Q (.v (.str ⟨#[c]⟩))) := rfl
theorem vSl_e1 : vSl (.list ds) l0 h0 Q = (Q (.own (.lst (cutP ds l0 h0)))) := rfl
theorem vSl_e2 : vSl (.tuple ds) l0 h0 Q = (Q (.v (.tuple (cutP ds l0 h0)))) := rfl
theorem vSl_e3 : vSl (.str z) l0 h0 Q = (z.length ≤ sizeLine ∧ Q (.v (.str (cutS z l0 h0)))) := rfl
theorem okRet_e1 {P : Rv → Prop} : okRet P (.v d) = (P (.v d)) := rfl
theorem okRet_e2 {P : Rv → Prop} : okRet P (.own c) = (P (.own c)) := rfl
theorem okRet_e3 {P : Rv → Prop} : okRet P (.glb v) = (P (.glb v)) := rfl
theorem okRet_e4 {P : Rv → Prop} : okRet P (.ab A) = (P (.ab A)) := rfl
theorem rdR_e1 : rdR (some (.v d)) P = (P d) := rfl
theorem rdR_e2 : rdR (some (.own c)) P = (P c.data) := rfl
theorem isOwnLR_e1 : isOwnLR (some (.own (.lst c0))) = (True) := rfl
theorem ownL_e1 : ownL (some (.own (.lst ds))) P = (P ds) := rfl
theorem asI_e1 : asI (.int i) P = (P i) := rfl
theorem sLen_e1 : sLen (.str y) P = (y.length ≤ sizeLine ∧ P (.int y.length)) := rfl
theorem sLen_e2 : sLen (.list ds) P = (P (.int ds.length)) := rfl
theorem sLen_e3 : sLen (.tuple ds) P = (P (.int ds.length)) := rfl
theorem asBs_e1 : asBs [] P = (P []) := rfl
theorem asBs_e2 : asBs (.bool b :: r) P = (asBs r fun bs => P (b :: bs)) := rfl
theorem asIs_e1 : asIs [] P = (P []) := rfl
theorem asIs_e2 : asIs (.int b :: r) P = (asIs r fun bs => P (b :: bs)) := rfl
theorem asSs_e1 : asSs [] P = (P []) := rfl
theorem asSs_e2 : asSs (.str b :: r) P = (asSs r fun bs => P (b :: bs)) := rfl
theorem asLst_e1 : asLst (.list ds) P = (P ds) := rfl
theorem vList_e1 : vList [.list es] Q = (Q (.own (.lst es))) := rfl
theorem vList_e2 : vList [.tuple es] Q = (Q (.own (.lst es))) := rfl
theorem vTuple_e1 : vTuple [.list es] Q = (Q (.v (.tuple es))) := rfl
theorem vTuple_e2 : vTuple [.tuple es] Q = (Q (.v (.tuple es))) := rfl
theorem sIntB1_e1 : sIntB1 (.bool b) P = (P (.int (if b then 1 else 0))) := rfl
theorem sStrN_e1 : sStrN (.int i) P = (i.natAbs.log2 < 1920 ∧ P (.str (Str.ofString (toString i)))) := rfl
theorem sStrN_e2 : sStrN (.bool b) P = (P (.str (Str.ofString (if b = true then "True" else "False")))) := rfl
theorem asR2_e1 : asR2 [r, q] P = (P r q) := rfl
theorem asL1_e1 : asL1 [.list ds] P = (P ds) := rfl
theorem asL1_e2 : asL1 [.tuple ds] P = (P ds) := rfl
theorem asL2_e1 : asL2 [.list ds, .list es] P = (P ds es) := rfl
theorem asL2_e2 : asL2 [.tuple ds, .tuple es] P = (P ds es) := rfl
theorem asKey_e1 : asKey (.int i) P = (P (.int i)) := rfl
theorem asKey_e2 : asKey (.str s) P = (P (.str s)) := rfl
theorem asDict_e1 : asDict (.dict ps) P = (P ps) := rfl
theorem dPairs_e1 : dPairs [] en Q = (Q [] en) := rfl
theorem dPairs_e2 : dPairs (t :: r) en Q = (t.1 en fun r1 en1 => asD r1 fun k => t.2 en1 fun r2 en2 => asD r2 fun v => dPairs r en2 fun ps en3 => Q ((k, v) :: ps) en3) := rfl
theorem asG_e1 : asG (.glb v) P = (P v) := rfl
theorem rdM_e1 : rdM (some (.v d)) P _ignored2 = (P d) := rfl
theorem rdM_e2 : rdM (some (.own c)) P _ignored2 = (P c.data) := rfl
theorem rdM_e3 : rdM (some (.glb v)) _ignored1 R = (R v) := rfl
theorem asR3_e1 : asR3 [r, q, s] P = (P r q s) := rfl
theorem inSDT_e1 {neg : Bool} : inSDT neg d (.tuple ds) P = ((SeqAt.shaped d = true ∧ SeqAt.shaped (.tuple ds) = true) ∧ P (.bool (neg ^^ inD d ds))) := rfl
theorem KeysAre_e1 {G : Hp} : KeysAre G [] [] = (True) := rfl
theorem KeysAre_e2 {G : Hp} : KeysAre G (p :: xs) (ds :: ks) = ((Dv G (.ref p.2.1) (.tuple ds) ∧ ds.all flatN = true ∧ p.1 = nkT ds) ∧ KeysAre G xs ks) := rfl
theorem eqD_tt {neg : Bool} {a b : List PyData} {P : PyData → Prop} : eqD neg (.tuple a) (.tuple b) P = (SeqAt.shaped (.tuple a) = true ∧ SeqAt.shaped (.tuple b) = true ∧ P (.bool (neg ^^ PyData.eqv (.tuple a) (.tuple b)))) := rfl
theorem eqD_ll {neg : Bool} {a b : List PyData} {P : PyData → Prop} : eqD neg (.list a) (.list b) P = (SeqAt.shaped (.list a) = true ∧ SeqAt.shaped (.list b) = true ∧ P (.bool (neg ^^ PyData.eqv (.list a) (.list b)))) := rfl
theorem eqD_nn {neg : Bool} {P : PyData → Prop} : eqD neg .none .none P = (P (.bool (neg ^^ true))) := by
  show (_ ∧ _ ∧ _) = _
  simp [SeqAt.shaped, PyData.canLay0, PyData.depth, PyData.eqv]
theorem inSD_t {neg : Bool} {d : PyData} {ds : List PyData} {P : PyData → Prop} : inSD neg d (.tuple ds) P = ((flatD d = true ∧ ds.all flatD = true) ∧ P (.bool (neg ^^ inD d ds))) := by
  cases d <;> rfl
theorem inSD_l {neg : Bool} {d : PyData} {ds : List PyData} {P : PyData → Prop} : inSD neg d (.list ds) P = (((flatD d = true ∧ ds.all flatD = true) ∨ (SeqAt.shaped d = true ∧ SeqAt.shaped (.list ds) = true)) ∧ P (.bool (neg ^^ inD d ds))) := by
  cases d <;> rfl
theorem isD_n {neg : Bool} {d : PyData} {P : PyData → Prop} : isD neg d .none P = (P (.bool (neg ^^ noneD d))) := by
  cases d <;> rfl
theorem allD_nil {P : List PyData → Prop} : allD [] P = P [] := rfl
theorem allD_cons {d : PyData} {rs : List Rv} {P : List PyData → Prop} : allD (.v d :: rs) P = allD rs fun ds => P (d :: ds) := rfl
theorem data_lst {ds : List PyData} : Ct.data (.lst ds) = .list ds := rfl
theorem okRet_v {P : Rv → Prop} {d : PyData} : okRet P (.v d) = P (.v d) := rfl
theorem okRet_own {P : Rv → Prop} {d : Ct} : okRet P (.own d) = P (.own d) := rfl
end Vf
namespace Vf
open PySem L2 PyProof.Rows PySem.Spec
/-! ## values: rows of statements, comprehensions and loops one uses -/
/-- a row of statements, the rest held back -/
theorem vcut {t u : DTS} {D : DEnds} {en : Ev} (h : ∀ u', u' = u → dSeq t u' D en) : dSeq t u D en := h u rfl
/-- .. the ends held back, too -/
theorem vcutE {t u : DTS} {D : DEnds} {en : Ev} (h : ∀ u' D', u' = u → D' = D → dSeq t u' D' en) : dSeq t u D en := h u D rfl rfl
theorem take_fm {α β : Type} (f : α → Option β) {ds : List α} {i : Nat} {d : α} (h : ds[i]? = some d) : (ds.take (i + 1)).filterMap f = (ds.take i).filterMap f ++ (f d).toList := by
  rw [List.take_add_one, h, List.filterMap_append]
  cases e : f d <;> simp [Option.toList, e]
/-- a comprehension whose test and element change nothing: what is made by f -/
theorem lc_fm {g : DTG} {tt : DTT} {te : DTE} {vs : List Nat} {ds : List PyData} {e0 : Ev} {Q : Rv → Ev → Prop} (f : PyData → Option PyData) (hz : ds.length ≤ sizeLine)
    (step : ∀ d ∈ ds, ∀ (C : PyData → Ev → Prop) (N : Ev → Prop), (∀ y, f d = some y → C y e0) → (f d = none → N e0) → g (.v d) e0 fun e2 => tt e2 fun b e3 => if b = true then te e3 fun r e4 => asD r fun y => C y (wipeE e4 vs) else N (wipeE e3 vs))
    (last : Q (.own (.lst (ds.filterMap f))) e0) :
    ∃ P : Nat → List PyData → Ev → Prop, P 0 [] e0 ∧
      (∀ i d acc e, ds[i]? = some d → P i acc e → g (.v d) e fun e2 => tt e2 fun b e3 => if b = true then te e3 fun r e4 => asD r fun y => acc.length < sizeLine ∧ P (i + 1) (acc ++ [y]) (wipeE e4 vs) else P (i + 1) acc (wipeE e3 vs)) ∧
      ∀ acc e, P ds.length acc e → Q (.own (.lst acc)) e := by
  refine ⟨fun i acc e => e = e0 ∧ acc = (ds.take i).filterMap f, ⟨rfl, rfl⟩, ?_, ?_⟩
  · rintro i d acc e hd ⟨rfl, rfl⟩
    have hi := (List.getElem?_eq_some_iff.mp hd).1
    have hl : ((ds.take i).filterMap f).length < sizeLine := by
      have := List.length_filterMap_le f (ds.take i)
      rw [List.length_take] at this
      omega
    refine step d (List.mem_of_getElem? hd) (fun y e4 => ((ds.take i).filterMap f).length < sizeLine ∧ e4 = e ∧ (ds.take i).filterMap f ++ [y] = (ds.take (i + 1)).filterMap f) (fun e3 => e3 = e ∧ (ds.take i).filterMap f = (ds.take (i + 1)).filterMap f) (fun y hy => ⟨hl, rfl, ?_⟩) fun hn => ⟨rfl, ?_⟩
    · rw [take_fm f hd, hy]
      rfl
    · rw [take_fm f hd, hn]
      exact (List.append_nil _).symm
  · rintro acc e ⟨rfl, rfl⟩
    rw [List.take_length]
    exact last
/-- .. all of them taken -/
theorem lc_map {g : DTG} {te : DTE} {vs : List Nat} {ds : List PyData} {e0 : Ev} {Q : Rv → Ev → Prop} (f : PyData → PyData) (hz : ds.length ≤ sizeLine)
    (step : ∀ d ∈ ds, ∀ C : PyData → Ev → Prop, C (f d) e0 → g (.v d) e0 fun e2 => te e2 fun r e4 => asD r fun y => C y (wipeE e4 vs))
    (last : Q (.own (.lst (ds.map f))) e0) :
    ∃ P : Nat → List PyData → Ev → Prop, P 0 [] e0 ∧
      (∀ i d acc e, ds[i]? = some d → P i acc e → g (.v d) e fun e2 => te e2 fun r e4 => asD r fun y => acc.length < sizeLine ∧ P (i + 1) (acc ++ [y]) (wipeE e4 vs)) ∧
      ∀ acc e, P ds.length acc e → Q (.own (.lst acc)) e := by
  refine ⟨fun i acc e => e = e0 ∧ acc = (ds.take i).map f, ⟨rfl, rfl⟩, ?_, ?_⟩
  · rintro i d acc e hd ⟨rfl, rfl⟩
    have hi := (List.getElem?_eq_some_iff.mp hd).1
    have hl : ((ds.take i).map f).length < sizeLine := by
      rw [List.length_map, List.length_take]
      omega
    refine step d (List.mem_of_getElem? hd) (fun y e4 => ((ds.take i).map f).length < sizeLine ∧ e4 = e ∧ (ds.take i).map f ++ [y] = (ds.take (i + 1)).map f) ⟨hl, rfl, ?_⟩
    rw [List.take_add_one, hd, List.map_append]
    rfl
  · rintro acc e ⟨rfl, rfl⟩
    rw [List.take_length]
    exact last
section
variable {di : DTI} {g : DTG} {tt : DTT} {te : DTE} {vs : List Nat} {en e1 : Ev} {ds : List PyData} {Q : Rv → Ev → Prop} {tb : DTS} {D : DEnds}
/-- over ds, told from the walk's side -/
theorem dLc_fm (hdi : ∀ C : List PyData → Ev → Prop, C ds e1 → di en C) (f : PyData → Option PyData) (hz : ds.length ≤ sizeLine)
    (step : ∀ d ∈ ds, ∀ (C : PyData → Ev → Prop) (N : Ev → Prop), (∀ y, f d = some y → C y (wipeE e1 vs)) → (f d = none → N (wipeE e1 vs)) → g (.v d) (wipeE e1 vs) fun e2 => tt e2 fun b e3 => if b = true then te e3 fun r e4 => asD r fun y => C y (wipeE e4 vs) else N (wipeE e3 vs))
    (last : Q (.own (.lst (ds.filterMap f))) (wipeE e1 vs)) : dLc di g tt te vs en Q := hdi _ (lc_fm f hz step last)
theorem dLc_map (hdi : ∀ C : List PyData → Ev → Prop, C ds e1 → di en C) (f : PyData → PyData) (hz : ds.length ≤ sizeLine)
    (step : ∀ d ∈ ds, ∀ C : PyData → Ev → Prop, C (f d) (wipeE e1 vs) → g (.v d) (wipeE e1 vs) fun e2 => te e2 fun r e4 => asD r fun y => C y (wipeE e4 vs))
    (last : Q (.own (.lst (ds.map f))) (wipeE e1 vs)) : dLc di g dYes te vs en Q := by
  refine hdi _ ?_
  obtain ⟨P, p0, st, la⟩ := lc_map f hz step last
  exact ⟨P, p0, fun i d acc e hd p => st i d acc e hd p, la⟩
theorem dLc_ex (hdi : ∀ C : List PyData → Ev → Prop, C ds e1 → di en C) (P : Nat → List PyData → Ev → Prop) (p0 : P 0 [] (wipeE e1 vs))
    (step : ∀ i d acc e, ds[i]? = some d → P i acc e → g (.v d) e fun e2 => tt e2 fun b e3 => if b = true then te e3 fun r e4 => asD r fun y => acc.length < sizeLine ∧ P (i + 1) (acc ++ [y]) (wipeE e4 vs) else P (i + 1) acc (wipeE e3 vs))
    (last : ∀ acc e, P ds.length acc e → Q (.own (.lst acc)) e) : dLc di g tt te vs en Q := hdi _ ⟨P, p0, step, last⟩
theorem dFor_ex (hdi : ∀ C : List PyData → Ev → Prop, C ds e1 → di en C) (P : Nat → Ev → Prop) (p0 : P 0 e1)
    (step : ∀ i d e, ds[i]? = some d → P i e → g (.v d) e fun e2 => tb { D with nx := P (i + 1), ct := P (i + 1), bk := D.nx } e2)
    (last : ∀ e, P ds.length e → D.nx e) : dFor di g tb D en := hdi _ ⟨P, p0, step, last⟩
end
/-- what is walked is known by a word alone -/
theorem dLc_mapW {di : DTI} {g : DTG} {te : DTE} {vs : List Nat} {en e1 : Ev} {Q : Rv → Ev → Prop} (W : List PyData → Prop) (hdi : ∀ C : List PyData → Ev → Prop, (∀ ds, W ds → C ds e1) → di en C) (f : PyData → PyData)
    (h : ∀ ds, W ds → ds.length ≤ sizeLine ∧ (∀ d ∈ ds, ∀ C : PyData → Ev → Prop, C (f d) (wipeE e1 vs) → g (.v d) (wipeE e1 vs) fun e2 => te e2 fun r e4 => asD r fun y => C y (wipeE e4 vs)) ∧ Q (.own (.lst (ds.map f))) (wipeE e1 vs)) : dLc di g dYes te vs en Q := by
  refine hdi _ fun ds w => ?_
  obtain ⟨hz, step, last⟩ := h ds w
  obtain ⟨P, p0, st, la⟩ := lc_map f hz step last
  exact ⟨P, p0, fun i d acc e hd p => st i d acc e hd p, la⟩
theorem dFor_exW {di : DTI} {g : DTG} {tb : DTS} {D : DEnds} {en e1 : Ev} (W : List PyData → Prop) (hdi : ∀ C : List PyData → Ev → Prop, (∀ ds, W ds → C ds e1) → di en C) (P : Nat → Ev → Prop) (p0 : P 0 e1)
    (step : ∀ ds, W ds → ∀ i d e, ds[i]? = some d → P i e → g (.v d) e fun e2 => tb { D with nx := P (i + 1), ct := P (i + 1), bk := D.nx } e2)
    (last : ∀ ds, W ds → ∀ e, P ds.length e → D.nx e) : dFor di g tb D en := hdi _ fun ds w => ⟨P, p0, step ds w, last ds w⟩
theorem dLc_exW {di : DTI} {g : DTG} {tt : DTT} {te : DTE} {vs : List Nat} {en e1 : Ev} {Q : Rv → Ev → Prop} (W : List PyData → Prop) (hdi : ∀ C : List PyData → Ev → Prop, (∀ ds, W ds → C ds e1) → di en C) (P : Nat → List PyData → Ev → Prop) (p0 : P 0 [] (wipeE e1 vs))
    (step : ∀ ds, W ds → ∀ i d acc e, ds[i]? = some d → P i acc e → g (.v d) e fun e2 => tt e2 fun b e3 => if b = true then te e3 fun r e4 => asD r fun y => acc.length < sizeLine ∧ P (i + 1) (acc ++ [y]) (wipeE e4 vs) else P (i + 1) acc (wipeE e3 vs))
    (last : ∀ ds, W ds → ∀ acc e, P ds.length acc e → Q (.own (.lst acc)) e) : dLc di g tt te vs en Q := hdi _ fun ds w => ⟨P, p0, step ds w, last ds w⟩
theorem wholesD_len (lo : Int) (n : Nat) : (wholesD lo n).length = n := by simp [wholesD]
theorem wholesD_at {lo : Int} {n i : Nat} {d : PyData} (h : (wholesD lo n)[i]? = some d) : i < n ∧ d = .int (lo + (i : Int)) := by
  have hi : i < n := by
    have := (List.getElem?_eq_some_iff.mp h).1
    rwa [wholesD_len] at this
  refine ⟨hi, ?_⟩
  unfold wholesD at h
  rw [List.getElem?_map, List.getElem?_range hi] at h
  exact (Option.some.inj h).symm
theorem wholesD_mem {lo : Int} {n : Nat} {d : PyData} (h : d ∈ wholesD lo n) : ∃ i : Int, d = .int i ∧ lo ≤ i ∧ i < lo + n := by
  unfold wholesD at h
  obtain ⟨i, hi, rfl⟩ := List.mem_map.mp h
  have := List.mem_range.mp hi
  exact ⟨_, rfl, by omega, by omega⟩
theorem cutP_to {ds : List PyData} {k : Int} (h : 0 ≤ k) : cutP ds none (some k) = ds.take k.toNat := by
  obtain ⟨n, rfl⟩ := Int.eq_ofNat_of_zero_le h
  unfold cutP
  rw [HT.sIx_none, HT.sIx_nat, List.drop_zero, Nat.sub_zero]
  show _ = ds.take n
  by_cases h : n ≤ ds.length
  · rw [Nat.min_eq_left h]
  · rw [Nat.min_eq_right (by omega), List.take_of_length_le (by omega), List.take_of_length_le (by omega)]
theorem cutP_from {ds : List PyData} {k : Int} (h : 0 ≤ k) : cutP ds (some k) none = ds.drop k.toNat := by
  obtain ⟨n, rfl⟩ := Int.eq_ofNat_of_zero_le h
  unfold cutP
  rw [HT.sIx_none, HT.sIx_nat]
  show _ = ds.drop n
  by_cases h : n ≤ ds.length
  · rw [Nat.min_eq_left h, List.take_of_length_le (by rw [List.length_drop]; omega)]
  · rw [Nat.min_eq_right (by omega), List.drop_length, List.drop_of_length_le (by omega)]
    simp
theorem line_of {n : Nat} (h : n ≤ 1000000) : n ≤ sizeLine := by
  rw [sizeLine_eq]
  omega
end Vf
namespace Vf
open PySem L2 PyProof.Rows PySem.Spec
/-! ## a part of the heap, without the deck; what grows beside draws -/
theorem Sv.free {d c p : Addr} {H H' : Hp} (v : Sv d c H H') (k : Deck H' d c) (h : H' p = none) : H p = none := by
  cases e : H p with
  | none => rfl
  | some o =>
    obtain ⟨_, ⟨t, n, hd⟩, ⟨ns, hc, _⟩⟩ := k
    have n1 : p ≠ d := fun z => by rw [z, hd] at h; cases h
    have n2 : p ≠ c := fun z => by rw [z, hc] at h; cases h
    rw [v p o e n1 n2] at h
    cases h
theorem Deck.same {d c : Addr} {H H' : Hp} (k : Deck H d c) (s : Same H H') : Deck H' d c := by
  obtain ⟨ne, ⟨t, n, hd⟩, ⟨ns, hc, hn⟩⟩ := k
  exact ⟨ne, ⟨t, n, s _ _ hd⟩, ⟨ns, s _ _ hc, hn⟩⟩
theorem Deck.off {d c p : Addr} {H : Hp} {o : HO} (k : Deck H d c) (n1 : p ≠ d) (n2 : p ≠ c) : Deck (upd H p o) d c := by
  obtain ⟨ne, ⟨t, n, hd⟩, ⟨ns, hc, hn⟩⟩ := k
  exact ⟨ne, ⟨t, n, by rw [upd_ne n1.symm]; exact hd⟩, ⟨ns, by rw [upd_ne n2.symm]; exact hc, hn⟩⟩

structure Pt (d c : Addr) (H G : Hp) : Prop where
  deck : Deck H d c
  sub : Same G H
  nd : G d = none
  nc : G c = none
structure GD (d c : Addr) (H G H' G' : Hp) : Prop where
  to : Pt d c H' G'
  big : Sv d c H H'
  part : Same G G'
  only : Only H G G'
theorem Deck.has {d c : Addr} {H : Hp} (k : Deck H d c) : H d ≠ none ∧ H c ≠ none := by
  obtain ⟨_, ⟨t, n, hd⟩, ⟨ns, hc, _⟩⟩ := k
  rw [hd, hc]
  exact ⟨nofun, nofun⟩
theorem Pt.keep {d c : Addr} {H G H' : Hp} (P : Pt d c H G) (v : Sv d c H H') (k : Deck H' d c) : GD d c H G H' G :=
  ⟨⟨k, fun b o e => v b o (P.sub b o e) (fun z => by rw [z, P.nd] at e; cases e) (fun z => by rw [z, P.nc] at e; cases e), P.nd, P.nc⟩, v, Same.refl G, Only.refl H G⟩
theorem Pt.refl {d c : Addr} {H G : Hp} (P : Pt d c H G) : GD d c H G H G := P.keep (Sv.refl d c H) P.deck
theorem Pt.same {d c : Addr} {H G H' : Hp} (P : Pt d c H G) (s : Same H H') : GD d c H G H' G := P.keep (Same.sv s) (P.deck.same s)
theorem Pt.grow {d c : Addr} {H G H' G' : Hp} (P : Pt d c H G) (g : Grow H G H' G') : GD d c H G H' G' :=
  ⟨⟨P.deck.same g.big, g.sub, g.only d P.deck.has.1 P.nd, g.only c P.deck.has.2 P.nc⟩, Same.sv g.big, g.part, g.only⟩
theorem GD.trans {d c : Addr} {H G H1 G1 H2 G2 : Hp} (a : GD d c H G H1 G1) (b : GD d c H1 G1 H2 G2) : GD d c H G H2 G2 := by
  refine ⟨b.to, a.big.trans b.big, a.part.trans b.part, fun x h1 h2 => b.only x (fun z => ?_) (a.only x h1 h2)⟩
  exact h1 (a.big.free a.to.deck z)
/-- a new thing, in the part -/
theorem Pt.at_ {d c p : Addr} {H G H' : Hp} {o : HO} (P : Pt d c H G) (s : Same H H') (n : H p = none) (e : H' p = some o) : GD d c H G H' (upd G p o) := by
  refine P.grow ⟨s, same_upd (P.sub.free n), fun b u eb => ?_, fun b h1 h2 => ?_⟩
  · by_cases hb : b = p
    · subst hb
      rw [upd_same] at eb
      rw [e]
      exact eb
    · rw [upd_ne hb] at eb
      exact s _ _ (P.sub _ _ eb)
  · rw [upd_ne fun z => h1 (by rw [z]; exact n)]
    exact h2
/-- a thing outside of the part is set -/
theorem Pt.set {d c p : Addr} {H G : Hp} {o : HO} (P : Pt d c H G) (n : G p = none) (n1 : p ≠ d) (n2 : p ≠ c) : Pt d c (upd H p o) G :=
  ⟨P.deck.off n1 n2, fun b u e => by
    rw [upd_ne fun z => by rw [z, n] at e; cases e]
    exact P.sub b u e, P.nd, P.nc⟩
theorem GD.setp {d c p : Addr} {H G H1 G1 : Hp} {o : HO} (a : GD d c H G H1 G1) (n : H p = none) (ng : G1 p = none) (n1 : p ≠ d) (n2 : p ≠ c) : GD d c H G (upd H1 p o) G1 :=
  ⟨a.to.set ng n1 n2, fun b u e nb nc => by
    rw [upd_ne fun z => by rw [z, n] at e; cases e]
    exact a.big b u e nb nc, a.part, a.only⟩
/-- a new thing is taken into the part -/
theorem GD.inc {d c p : Addr} {H G H' G' : Hp} {o : HO} (g : GD d c H G H' G') (n : H p = none) (ng : G' p = none) (e : H' p = some o) (n1 : p ≠ d) (n2 : p ≠ c) : GD d c H G H' (upd G' p o) := by
  refine ⟨⟨g.to.deck, fun b u eb => ?_, by rw [upd_ne n1.symm]; exact g.to.nd, by rw [upd_ne n2.symm]; exact g.to.nc⟩, g.big, g.part.trans (same_upd ng), fun b h1 h2 => ?_⟩
  · by_cases hb : b = p
    · subst hb
      rw [upd_same] at eb
      rw [e]
      exact eb
    · rw [upd_ne hb] at eb
      exact g.to.sub _ _ eb
  · rw [upd_ne fun z => h1 (by rw [z]; exact n)]
    exact g.only b h1 h2
/-- a row of statements, the rest held back -/
theorem seq_cut {t u : TS} {D : Ends} {σ : L2.St} {H : Hp} (h : ∀ u', u' = u → tSeq t u' D σ H) : tSeq t u D σ H := h u rfl
end Vf
set_option backward.eqns.nonrecursive true
namespace Vf
open PySem L2 PyProof.Rows PySem.Spec
local macro_rules | `(tactic| walk_at "rw") => `(tactic| (try (walk_at "rv"); simp only [dLc, dLc2, dFor, dWhile]; walk_at "rv"))
local macro_rules | `(tactic| walk_at "rv") => `(tactic| simp only [dSeq, dAsg, dCallD, dCallW, keySp, List.getD_cons_zero, List.getD_cons_succ, dgName, dCall, dCallK, dCons, dNil, dVar, dC, dIfS, dTest, dTup, dLst, dBlt, s1, s2, dBin, dUn, vSub, vFdiv, vMod, vPow, vShl, vShr, vAnd, vOr, vXor, vNeg, vInv, yesC, sLt, sLe, sGt, sGe, sEq, sNe, sIn, sNotIn, dBinL, dBinR, rdE, dIxVar, dRet, dRetVar, dRetN, dNext, dDrop, dCont, dBreak, dAnd, dOr, dNot, dAndV, dOrV, dNotV, dIf, dChain, dWalk, dRange1, dRange2, dYes, wipeE, dgTup, dgTupT, dgCons, dgNil, dgSet, dAppend, dExtend, dPop, isOwnL, isOwn, dSl, dPart, dPartN, dLstRg, dTupRg, dRg1, dRg2, dCount, dRev, dRevT, dPar, dPar2, dPar3, asR3_e1, dSortedSetI, dSortedSetT, dSortedSetS, dEnum, dZip, dRevW, dIsi, dLZ, dGetS, dGet2, dDisp, dPairs_e1, dPairs_e2, asKey_e1, asKey_e2, asDict_e1, data_dic, asL1_e1, asL1_e2, asL2_e1, asL2_e2, isiInt_n, isiInt_b, isiInt_i, isiInt_s, isiInt_l, isiInt_t, isiBool_n, isiBool_b, isiBool_i, isiBool_s, isiBool_l, isiBool_t, isiStr_n, isiStr_b, isiStr_i, isiStr_s, isiStr_l, isiStr_t, isiTup_n, isiTup_b, isiTup_i, isiTup_s, isiTup_l, isiTup_t, isiLst_n, isiLst_b, isiLst_i, isiLst_s, isiLst_l, isiLst_t, dInG, dTru, dTruVar, dAug, sSum, sAll, sAny, sRepr, dBltVar, asIs_map, asBs_map, asSs_map, asD_e1, asD_e2, rdV_e1, rdV_e2, rdV_e3, rdV_e4, rdV_e5, asB_e1, truD_e1, truD_e2, truD_e3, truD_e4, truD_e5, truD_e6, truD_e7, truR_e1, truR_e2, truR_e3, asA_e1, asA_e2, asA_e3, asA_e4, asA_e5, allD_e1, allD_e2, asTL_e1, asTL_e2, asTup_e1, isOwnR_e1, putR_e1, asV_e1, asSeq_e1, asSeq_e2, asSeq_e3, asI1_e1, asI2_e1, sC_e1, sInt_e1, sIntB_e1, sI1_e1, vAdd_e1, vAdd_e2, vAdd_e3, vAdd_e4, vMul_e1, vMul_e2, vMul_e3, vMul_e4, eqD_e1, eqD_e2, eqD_e3, inSD_e1, inSDT_e1, isD_e1, vIx_e1, vIx_e2, vIx_e3, vSl_e1, vSl_e2, vSl_e3, okRet_e1, okRet_e2, okRet_e3, okRet_e4, asG_e1, rdM_e1, rdM_e2, rdM_e3, dStep, dGlb, dInM, dInKd, dListKd, dKeysKd, asKd, rdR_e1, rdR_e2, isOwnLR_e1, ownL_e1, asI_e1, sLen_e1, sLen_e2, sLen_e3, asBs_e1, asBs_e2, asIs_e1, asIs_e2, asSs_e1, asSs_e2, asLst_e1, vList_e1, vList_e2, vTuple_e1, vTuple_e2, sIntB1_e1, sStrN_e1, sStrN_e2, asR2_e1, eqD_tt, eqD_ll, eqD_nn, inSD_t, inSD_l, isD_n, allD_nil, allD_cons, data_lst, okRet_v, okRet_own,
  startE, List.length_cons, List.length_nil, Nat.zero_add, Nat.reduceAdd, Nat.reduceSub, Nat.sub_self, List.replicate_succ, List.replicate_zero, List.cons_append, List.nil_append, List.append_nil, List.getElem?_cons_zero, List.getElem?_cons_succ, List.set_cons_zero, List.set_cons_succ, List.map_cons, List.map_nil, ne_eq, not_false_eq_true, reduceCtorEq, List.cons.injEq, Rv.v.injEq, PyData.int.injEq, PyData.str.injEq, PyData.list.injEq, PyData.tuple.injEq, PyData.bool.injEq,
  and_assoc, Rv.own.injEq, Rv.glb.injEq, Rv.ab.injEq, Ct.lst.injEq, or_true, true_or, false_or, or_false, exists_const, true_and, and_true, Bool.false_xor, Bool.true_xor, Bool.false_bne, Bool.not_true, Bool.not_false, if_true, if_false, Bool.false_eq_true, ite_true, ite_false, exists_eq_left', exists_eq_left, exists_eq_right', exists_eq_right, exists_and_left, exists_and_right, Option.some.injEq])
/-! ## values: the deck -/
theorem dk_iff {H : Hp} {d c : Addr} : Dk H d c ↔ Deck H d c := ⟨fun ⟨a, b, e⟩ => ⟨a, b, e⟩, fun ⟨a, b, e⟩ => ⟨a, b, e⟩⟩
theorem fr_dk {F : Fr} {d c a : Addr} (e : F.dc = some (d, c)) : F.dk a ↔ a = d ∨ a = c := by
  unfold Fr.dk
  rw [e]
theorem fr_dok {F : Fr} {d c : Addr} {H : Hp} (e : F.dc = some (d, c)) : F.dok H ↔ Deck H d c := by
  unfold Fr.dok
  rw [e]
  exact dk_iff
theorem bs_pt {F : Fr} {H G : Hp} {d c : Addr} (e : F.dc = some (d, c)) (B : Bs F H G) : Pt d c H G := ⟨(fr_dok e).mp B.dok, B.sub, B.nd d ((fr_dk e).mpr (.inl rfl)), B.nd c ((fr_dk e).mpr (.inr rfl))⟩
theorem gd_stp {F : Fr} {H G H' G' : Hp} {d c : Addr} (e : F.dc = some (d, c)) (g : GD d c H G H' G') : Stp F H G H' G' :=
  ⟨(fr_dok e).mpr g.to.deck, fun b o eb n => g.big b o eb (fun z => n ((fr_dk e).mpr (.inl z))) (fun z => n ((fr_dk e).mpr (.inr z))), g.to.sub, fun a h => ((fr_dk e).mp h).elim (fun z => z ▸ g.to.nd) (fun z => z ▸ g.to.nc), g.part, fun b o h1 _ h3 => g.only b (by rw [h1]; nofun) h3⟩
/-- the frame of a deck -/
def deckFr (d c : Addr) (H G : Hp) : Fr := ⟨some (d, c), H, G⟩
theorem OksA.two {F : Fr} {H G : Hp} {vs : List V} {r s : Rv} (h : OksA F H G vs [r, s]) : ∃ x y, vs = [x, y] ∧ OksA F H G [x] [r] ∧ OksA F H G [y] [s] := by
  have l := h.len
  match vs, l with
  | [x, y], _ =>
    refine ⟨x, y, rfl, ?_, ?_⟩
    · cases r <;> first | exact False.elim h | exact ⟨h.1, trivial⟩
    · cases r <;> first | exact False.elim h | exact h.2
theorem OksA.one {F : Fr} {H G : Hp} {vs : List V} {d : PyData} (h : OksA F H G vs [.v d]) : ∃ x, vs = [x] ∧ Dv G x d := by
  have l := h.len
  match vs, l with
  | [x], _ => exact ⟨x, rfl, h.1⟩
theorem OksA.dk {F : Fr} {H G : Hp} {x : V} (h : OksA F H G [x] [.deck]) : ∃ d c, F.dc = some (d, c) ∧ x = .ref d := h.1
theorem OksA.dv {F : Fr} {H G : Hp} {x : V} {d : PyData} (h : OksA F H G [x] [.v d]) : Dv G x d := h.1
section
variable {P : Program} {w : World} {K : PySem.W.Frag} {mg : Str → Option Value} {base : Heap}
def vDraw : DSp := fun rs P => ∃ m : Int, rs = [.deck, .v (.int m)] ∧ ((0 < m ∧ m < 1073741824) ∧ ∀ r : Int, 0 ≤ r → r < m → P (.v (.int r)))
theorem v__law_draw {ps : List Str} {k : Nat} (c : Cal P w K mg base "_law_draw" ps k spDraw) : Cal P w K mg base "_law_draw" ps k (spD vDraw) := c.upV fun vs H Q E ⟨F, G, rs, Pr, B, ok, h, q⟩ => by
  obtain ⟨m, rfl, h⟩ := h
  obtain ⟨x, y, rfl, h1, h2⟩ := ok.two
  obtain ⟨d, c, e, rfl⟩ := h1.dk
  cases h2.dv
  have pt := bs_pt e B
  exact ⟨d, c, m, rfl, pt.deck, h.1.1, h.1.2, fun r H' r0 r1 k v => q _ H' G (.v (.int r)) (gd_stp e (pt.keep v k)) (Dv.int (H := G) r) (h.2 r r0 r1)⟩
def vPick : DSp := fun rs P => ∃ ds : List PyData, rs = [.deck, .v (.list ds)] ∧ ((0 < ds.length ∧ ds.length ≤ 100000000) ∧ ∀ d, d ∈ ds → P (.v d))
theorem atI_mem {α : Type} {xs : List α} {i : Int} (h0 : 0 ≤ i) (h1 : i < xs.length) : ∃ x, atI xs i = some x ∧ x ∈ xs := by
  have h2 : i.toNat < xs.length := by omega
  refine ⟨xs[i.toNat], ?_, List.getElem_mem h2⟩
  unfold atI ixN
  rw [if_pos h0, if_pos h1]
  exact List.getElem?_eq_getElem h2
theorem ok_v_pick {f : Addr} {fd : FuncData} (D : Df K mg "_law_pick" s__law_pick f fd) (T : Tx K mg) (v__law_draw : Cal P w K mg base "_law_draw" ["_law_deck_here", "_law_many"] 1 (spD vDraw)) : Cal P w K mg base "_law_pick" ["_law_deck_here", "_law_some"] 2 (spD vPick) := by
  refine D.calD sc__law_pick (fun rs P h => ?_) (fun _ _ _ _ _ _ us hl => match us, hl with | [_, _], _ => rfl) (fun cdv A outer s H E hgu hr => ⟨_, (dsOne (dsRet (dIxVarE (pv 1) (dCallE v__law_draw hgu (hr.mono (by omega)) (by rfl) (daCons (dName (pv 0)) (daCons (dCallBV bLenP (by rfl) T.len (by decide +kernel) (pv 1)) daNil))) (fun _ _ => rfl)))), fun rs P h => ?_⟩)
  · obtain ⟨ds, rfl, h⟩ := h
    rfl
  · obtain ⟨ds, rfl, h⟩ := h
    walk_at "rv"
    simp only [vDraw]
    walk_at "rv"
    refine ⟨by omega, by omega, fun r r0 r1 => ?_⟩
    obtain ⟨z, e, hz⟩ := atI_mem r0 r1
    exact ⟨z, e, h.2 z hz⟩
/-- the law's state behind its first row, which lays the deck -/
theorem law_rl {a d c : Addr} {H : Hp} (n : Nat) (k : Deck H d c) : Rl (deckFr d c H noHp) (.non :: .deck :: List.replicate n .non) (some (.ref a) :: some (.ref d) :: List.replicate n none) H noHp := by
  have e : (deckFr d c H noHp).dc = some (d, c) := rfl
  have ok := (fr_dok (H := H) e).mpr k
  refine ⟨ok, ⟨ok, noHp_sub _, fun _ _ => rfl⟩, ⟨ok, fun _ _ e _ => e, noHp_sub _, fun _ _ => rfl, Same.refl _, fun _ _ _ _ h => h⟩, fun i r ei nr => ?_, fun i j c1 c2 e1 _ _ => ?_, by simp⟩
  · match i, ei with
    | 0, ei => exact absurd (Option.some.inj ei).symm nr
    | 1, ei =>
      cases (Option.some.inj ei : Rv.deck = r)
      exact ⟨.ref d, rfl, d, c, e, rfl⟩
    | i + 2, ei =>
      have ei : (List.replicate n Rv.non)[i]? = some r := ei
      rw [List.getElem?_replicate] at ei
      split at ei
      · exact absurd (Option.some.inj ei).symm nr
      · cases ei
  · match i, e1 with
    | 0, e1 => cases e1
    | 1, e1 => cases e1
    | i + 2, e1 =>
      have e1 : (List.replicate n Rv.non)[i]? = some (.own c1) := e1
      rw [List.getElem?_replicate] at e1
      split at e1 <;> cases e1
theorem law_fin {F : Fr} {G : Hp} {Q : VK} (q : ∀ H', Q (.bl true) H') : FinS F G ⟨fun _ => False, fun r => r = .v (.bool true), fun _ => False, fun _ => False⟩ { nx := fun _ H' => Q .non H', rt := Q } where
  nx := fun _ _ _ _ _ _ h => h.elim
  bk := fun _ _ _ _ _ _ h => h
  ct := fun _ _ _ _ _ _ h => h
  rt := fun x σ' H' G' r en' s R ok e => by
    subst e
    cases (show Dv G' x (.bool true) from ok)
    exact q H'
/-- the law's call: the deck, then the rest by values -/
theorem law_run {N : List Str} {n : Nat} {t : DTS} {vs : List V} {H : Hp} {Q : VK} (hN : N.length = n + 2) (h : spLaw K vs H Q E0 ∨ ∃ E, spLaw K vs H Q E) (ht : ∀ m, n = m → t ⟨fun _ => False, fun r => r = .v (.bool true), fun _ => False, fun _ => False⟩ (.non :: .deck :: List.replicate m .non)) :
    tSeq (tAsg (tCall (spDeck K) [] E0 (tCons (tVar 0) tNil)) (gName 1)) (liftS t) { nx := fun _ H' => Q .non H', rt := Q } (L2.start N vs) H := by
  obtain ⟨a, ns, rfl, ha, hn, q⟩ : ∃ (a : Addr) (ns : List Int), vs = [.ref a] ∧ SqL K H a (ns.map V.int) ∧ ns.length ≤ 63 ∧ ∀ H', Q (.bl true) H' := by
    rcases h with h | ⟨E, h⟩ <;> exact h
  refine ⟨.ref a, rfl, a, ns, rfl, ha, hn, fun d c H' s n1 n2 k => ?_⟩
  have e : (L2.start N [V.ref a]).set 1 (some (.ref d)) = some (.ref a) :: some (.ref d) :: List.replicate n none := by
    unfold L2.start
    rw [hN]
    rfl
  show liftS t _ ((L2.start N [V.ref a]).set 1 (some (.ref d))) H'
  rw [e]
  exact ⟨deckFr d c H' noHp, _, noHp, _, law_rl n k, ht n rfl, law_fin q⟩
end
end Vf
namespace Vf
open PySem L2 PyProof.Rows PySem.Spec
/-! ## rows of whole numbers as keys; what is let -/
theorem nk_ints : ∀ {a b : List Int}, (a.map PyData.int).map nkF = (b.map PyData.int).map nkF → a = b
  | [], [], _ => rfl
  | [], _ :: _, h => by cases h
  | _ :: _, [], h => by cases h
  | x :: a, y :: b, h => by
    simp only [List.map_cons, List.cons.injEq] at h
    obtain ⟨h1, h2⟩ := h
    have h1 : NestedKey.num x = NestedKey.num y := h1
    cases h1
    rw [nk_ints h2]
theorem nk_bools : ∀ {a b : List Bool}, (a.map PyData.bool).map nkF = (b.map PyData.bool).map nkF → a = b
  | [], [], _ => rfl
  | [], _ :: _, h => by cases h
  | _ :: _, [], h => by cases h
  | x :: a, y :: b, h => by
    simp only [List.map_cons, List.cons.injEq] at h
    obtain ⟨h1, h2⟩ := h
    have h1 : NestedKey.num (if x = true then 1 else 0) = NestedKey.num (if y = true then 1 else 0) := h1
    rw [nk_bools h2]
    cases x <;> cases y <;> first | rfl | (injection h1 with h3; exact absurd h3 (by decide))
def rowP (r : List Int) : List PyData := r.map .int
def patP (p : List Bool) : List PyData := p.map .bool
theorem row_eq {a b : List Int} : nkT (rowP a) = nkT (rowP b) ↔ a = b := ⟨fun h => nk_ints (NestedKey.tup.inj h), fun h => by rw [h]⟩
theorem pat_eq {a b : List Bool} : nkT (patP a) = nkT (patP b) ↔ a = b := ⟨fun h => nk_bools (NestedKey.tup.inj h), fun h => by rw [h]⟩
theorem has_row (ks : List (List Int)) (r : List Int) : hasK (ks.map rowP) (rowP r) = decide (r ∈ ks) := by
  unfold hasK
  induction ks with
  | nil => rfl
  | cons k ks ih =>
    rw [List.map_cons, List.any_cons, ih, Bool.eq_iff_iff]
    simp only [Bool.or_eq_true, decide_eq_true_eq, row_eq, List.mem_cons]
    exact ⟨fun h => h.elim (fun z => .inl z.symm) .inr, fun h => h.elim (fun z => .inl z.symm) .inr⟩
theorem has_pat (ks : List (List Bool)) (r : List Bool) : hasK (ks.map patP) (patP r) = decide (r ∈ ks) := by
  unfold hasK
  induction ks with
  | nil => rfl
  | cons k ks ih =>
    rw [List.map_cons, List.any_cons, ih, Bool.eq_iff_iff]
    simp only [Bool.or_eq_true, decide_eq_true_eq, pat_eq, List.mem_cons]
    exact ⟨fun h => h.elim (fun z => .inl z.symm) .inr, fun h => h.elim (fun z => .inl z.symm) .inr⟩
def ins1 {α : Type} [DecidableEq α] (l : List α) (x : α) : List α := if x ∈ l then l else l ++ [x]
theorem add_row (ks : List (List Int)) (r : List Int) : addK (ks.map rowP) (rowP r) = (ins1 ks r).map rowP := by
  unfold addK ins1
  rw [has_row]
  by_cases h : r ∈ ks
  · rw [if_pos (decide_eq_true h), if_pos h]
  · rw [if_neg (by simpa using h), if_neg h, List.map_append]
    rfl
theorem add_pat (ks : List (List Bool)) (r : List Bool) : addK (ks.map patP) (patP r) = (ins1 ks r).map patP := by
  unfold addK ins1
  rw [has_pat]
  by_cases h : r ∈ ks
  · rw [if_pos (decide_eq_true h), if_pos h]
  · rw [if_neg (by simpa using h), if_neg h, List.map_append]
    rfl
theorem ins1_mem {α : Type} [DecidableEq α] {l : List α} {x y : α} : y ∈ ins1 l x ↔ y ∈ l ∨ y = x := by
  unfold ins1
  split
  · next h => exact ⟨.inl, fun k => k.elim id fun z => z ▸ h⟩
  · simp
theorem ins1_len {α : Type} [DecidableEq α] (l : List α) (x : α) : (ins1 l x).length ≤ l.length + 1 := by
  unfold ins1
  split <;> simp
theorem flat_row (r : List Int) : (rowP r).all flatN = true := by simp [rowP, flatN]
theorem flat_pat (r : List Bool) : (patP r).all flatN = true := by simp [patP, flatN]
theorem shaped_row (r : List Int) : SeqAt.shaped (.tuple (rowP r)) = true := by
  have h : ∀ l : List Int, PyData.canLayAll0 (l.map .int) = true ∧ PyData.depthAll (l.map .int) = 0 := fun l => by
    induction l with
    | nil => exact ⟨rfl, rfl⟩
    | cons x l ih => exact ⟨by simp [PyData.canLayAll0, PyData.canLay0, ih.1], by simp [PyData.depthAll, PyData.depth, ih.2]⟩
  simp [SeqAt.shaped, rowP, PyData.canLay0, PyData.depth, (h r).1, (h r).2]
theorem shaped_rows (rs : List (List Int)) : SeqAt.shaped (.tuple (rs.map fun r => .tuple (rowP r))) = true ∧ SeqAt.shaped (.list (rs.map fun r => .tuple (rowP r))) = true := by
  have h : ∀ l : List (List Int), PyData.canLayAll0 (l.map fun r => PyData.tuple (rowP r)) = true ∧ PyData.depthAll (l.map fun r => PyData.tuple (rowP r)) ≤ 1 := fun l => by
    induction l with
    | nil => exact ⟨rfl, Nat.zero_le _⟩
    | cons x l ih =>
      have hx := shaped_row x
      simp only [SeqAt.shaped, Bool.and_eq_true] at hx
      have hd : ∀ m : List Int, PyData.depthAll (m.map .int) = 0 := fun m => by
        induction m with
        | nil => rfl
        | cons y m ih => simp [PyData.depthAll, PyData.depth, ih]
      refine ⟨by simp only [List.map_cons, PyData.canLayAll0, hx.1, ih.1, Bool.and_self], ?_⟩
      simp only [List.map_cons, PyData.depthAll, PyData.depth, rowP, hd] at ih ⊢
      omega
  obtain ⟨a, b⟩ := h rs
  refine ⟨?_, ?_⟩
  · show (PyData.canLayAll0 _ && decide (PyData.depthAll _ + 1 ≤ 64)) = true
    rw [a, Bool.true_and, decide_eq_true_eq]
    omega
  · show (PyData.canLayAll0 _ && decide (PyData.depthAll _ + 1 ≤ 64)) = true
    rw [a, Bool.true_and, decide_eq_true_eq]
    omega
theorem eqv_row : ∀ a b : List Int, PyData.eqvAll (rowP a) (rowP b) = decide (a = b)
  | [], [] => by simp [rowP, PyData.eqvAll]
  | [], _ :: _ => by simp [rowP, PyData.eqvAll]
  | _ :: _, [] => by simp [rowP, PyData.eqvAll]
  | x :: a, y :: b => by
    have h := eqv_row a b
    unfold rowP at h ⊢
    rw [List.map_cons, List.map_cons, PyData.eqvAll, h, Bool.eq_iff_iff]
    simp [PyData.eqv]
theorem eqv_rowT (a b : List Int) : PyData.eqv (.tuple (rowP a)) (.tuple (rowP b)) = decide (a = b) := by
  rw [PyData.eqv]
  exact eqv_row a b
theorem in_rows (r : List Int) (rs : List (List Int)) : inD (.tuple (rowP r)) (rs.map fun r => .tuple (rowP r)) = decide (r ∈ rs) := by
  unfold inD
  induction rs with
  | nil => rfl
  | cons k rs ih =>
    rw [List.map_cons, List.any_cons, ih, eqv_rowT, Bool.eq_iff_iff]
    simp only [Bool.or_eq_true, decide_eq_true_eq, List.mem_cons]
    exact ⟨fun h => h.elim (fun z => .inl z.symm) .inr, fun h => h.elim (fun z => .inl z.symm) .inr⟩
/-! ### what is let -/
def spoilI (r : List Int) (p : List Bool) : List Int := if p.any id = true then List.zipWith (fun x b => if b = true then -2 else x) r p else r
def badP (r : List Int) : List Bool := r.map fun x => decide (x = -2)
/-- a is let by b -/
def fitI (a b : List Int) : Bool := (List.zipWith (fun x y => decide (y = x) || decide (y = -2)) a b).all id
/-- by the law's words -/
def letP (N O : List (List Int)) : Bool := decide ([-3] ∈ O) || N.all fun r => decide (r ≠ [-3]) && O.any fun o => fitI r o
def RowsOk (n : Nat) (R : List (List Int)) : Prop := ∀ r ∈ R, r = [-3] ∨ r.length = n
theorem fit_spoil : ∀ {a b : List Int}, a.length = b.length → fitI a b = true → (if (badP b).any id = true then List.zipWith (fun x b => if b = true then -2 else x) a (badP b) else a) = b
  | [], [], _, _ => rfl
  | x :: a, y :: b, hl, h => by
    have hl : a.length = b.length := by simpa using hl
    unfold fitI at h
    simp only [List.zipWith_cons_cons, List.all_cons, id, Bool.and_eq_true] at h
    have ih := fit_spoil hl (by unfold fitI; exact h.2)
    have tl : List.zipWith (fun x b => if b = true then -2 else x) a (badP b) = b := by
      by_cases e : (badP b).any id = true
      · rw [if_pos e] at ih
        exact ih
      · rw [if_neg e] at ih
        subst ih
        have all : ∀ c : List Int, (badP c).any id = false → List.zipWith (fun x b => if b = true then -2 else x) c (badP c) = c := fun c => by
          induction c with
          | nil => exact fun _ => rfl
          | cons z c ih =>
            intro hc
            simp only [badP, List.map_cons, List.any_cons, id, Bool.or_eq_false_iff] at hc
            simp only [badP, List.map_cons, List.zipWith_cons_cons]
            rw [show List.zipWith (fun x b => if b = true then -2 else x) c (c.map fun x => decide (x = -2)) = c from ih hc.2, if_neg (by rw [hc.1]; decide)]
        exact all a (by simpa using e)
    have hd : (if decide (y = -2) = true then -2 else x) = y := by
      simp only [Bool.or_eq_true, decide_eq_true_eq] at h ⊢
      split
      · next z => exact z.symm
      · next z => exact (h.1.resolve_right z).symm
    by_cases e : (badP (y :: b)).any id = true
    · rw [if_pos e]
      show List.zipWith _ (x :: a) (decide (y = -2) :: badP b) = _
      rw [List.zipWith_cons_cons, tl, hd]
    · rw [if_neg e]
      simp only [badP, List.map_cons, List.any_cons, id, Bool.or_eq_true, not_or, decide_eq_true_eq] at e
      have e2 : ¬ (badP b).any id = true := e.2
      rw [if_neg e2] at ih
      rw [if_neg (by simpa using e.1)] at hd
      rw [ih, hd]
theorem spoil_fit : ∀ {a o : List Int}, a.length = o.length → fitI a (spoilI a (badP o)) = true := fun {a o} hl => by
  unfold spoilI
  split
  · have : ∀ (a o : List Int), a.length = o.length → fitI a (List.zipWith (fun x b => if b = true then -2 else x) a (badP o)) = true := by
      intro a
      induction a with
      | nil => intro o _; rfl
      | cons x a ih =>
        intro o hl
        match o, hl with
        | y :: o, hl =>
          have := ih o (by simpa using hl)
          unfold fitI at this ⊢
          simp only [badP, List.map_cons, List.zipWith_cons_cons, List.all_cons, id, Bool.and_eq_true] at this ⊢
          refine ⟨?_, this⟩
          by_cases hy : y = -2 <;> simp [hy]
    exact this a o hl
  · have : ∀ a : List Int, fitI a a = true := fun a => by
      induction a with
      | nil => rfl
      | cons x a ih =>
        unfold fitI at ih ⊢
        simp [ih]
    exact this a
theorem fit_self : ∀ a : List Int, fitI a a = true := fun a => by
  induction a with
  | nil => rfl
  | cons x a ih =>
    unfold fitI at ih ⊢
    simp [ih]
/-- the program's way is the law's -/
theorem covered {n : Nat} {O ks : List (List Int)} {pats : List (List Bool)} {r : List Int} (hr : r.length = n) (hO : ∀ o ∈ O, o.length = n) (hk : ∀ x, x ∈ ks ↔ x ∈ O) (hp : ∀ p, p ∈ pats ↔ ∃ o ∈ O, p = badP o) : (pats.any fun p => decide (spoilI r p ∈ ks)) = O.any fun o => fitI r o := by
  rw [Bool.eq_iff_iff]
  simp only [List.any_eq_true, decide_eq_true_eq]
  constructor
  · rintro ⟨p, hm, h⟩
    obtain ⟨o, ho, rfl⟩ := (hp p).mp hm
    exact ⟨_, (hk _).mp h, spoil_fit (by rw [hr, hO o ho])⟩
  · rintro ⟨o, ho, h⟩
    refine ⟨badP o, (hp _).mpr ⟨o, ho, rfl⟩, (hk _).mpr ?_⟩
    unfold spoilI
    rw [fit_spoil (by rw [hr, hO o ho]) h]
    exact ho
theorem fit_trans : ∀ {a b c : List Int}, a.length = b.length → b.length = c.length → fitI a b = true → fitI b c = true → fitI a c = true
  | [], [], [], _, _, _, _ => rfl
  | x :: a, y :: b, z :: c, h1, h2, k1, k2 => by
    have ih := fit_trans (a := a) (b := b) (c := c) (by simpa using h1) (by simpa using h2)
    unfold fitI at k1 k2 ih ⊢
    simp only [List.zipWith_cons_cons, List.all_cons, id, Bool.and_eq_true, Bool.or_eq_true, decide_eq_true_eq] at k1 k2 ih ⊢
    refine ⟨?_, ih k1.2 k2.2⟩
    rcases k2.1 with e | e
    · rcases k1.1 with e2 | e2
      · exact .inl (e.trans e2)
      · exact .inr (e.trans e2)
    · exact .inr e
theorem let_trans {n : Nat} {A B C : List (List Int)} (hA : RowsOk n A) (hB : RowsOk n B) (hC : RowsOk n C) (h1 : letP A B = true) (h2 : letP B C = true) : letP A C = true := by
  unfold letP at h1 h2 ⊢
  simp only [Bool.or_eq_true, decide_eq_true_eq, List.all_eq_true, Bool.and_eq_true, List.any_eq_true] at h1 h2 ⊢
  rcases h2 with h2 | h2
  · exact .inl h2
  by_cases c3 : [-3] ∈ C
  · exact .inl c3
  refine .inr fun r hr => ?_
  have nB : [-3] ∉ B := fun z => (h2 _ z).1 rfl
  rcases h1 with h1 | h1
  · exact absurd h1 nB
  obtain ⟨r3, b, hb, f1⟩ := h1 r hr
  obtain ⟨b3, c, hc, f2⟩ := h2 b hb
  refine ⟨r3, c, hc, fit_trans ?_ ?_ f1 f2⟩
  · rw [(hA r hr).resolve_left r3, (hB b hb).resolve_left b3]
  · rw [(hB b hb).resolve_left b3, (hC c hc).resolve_left fun z => c3 (z ▸ hc)]
theorem let_self (A : List (List Int)) : letP A A = true := by
  unfold letP
  simp only [Bool.or_eq_true, decide_eq_true_eq, List.all_eq_true, Bool.and_eq_true, List.any_eq_true]
  by_cases h : [-3] ∈ A
  · exact .inl h
  · exact .inr fun r hr => ⟨fun z => h (z ▸ hr), r, hr, fit_self r⟩
end Vf
set_option backward.eqns.nonrecursive true
namespace Vf
open PySem L2 PyProof.Rows PySem.Spec
local macro_rules | `(tactic| walk_at "rw") => `(tactic| (try (walk_at "rv"); simp only [dLc, dLc2, dFor, dWhile]; walk_at "rv"))
local macro_rules | `(tactic| walk_at "rv") => `(tactic| simp only [dSeq, dAsg, dCallD, dCallW, keySp, List.getD_cons_zero, List.getD_cons_succ, dgName, dCall, dCallK, dCons, dNil, dVar, dC, dIfS, dTest, dTup, dLst, dBlt, s1, s2, dBin, dUn, vSub, vFdiv, vMod, vPow, vShl, vShr, vAnd, vOr, vXor, vNeg, vInv, yesC, sLt, sLe, sGt, sGe, sEq, sNe, sIn, sNotIn, dBinL, dBinR, rdE, dIxVar, dRet, dRetVar, dRetN, dNext, dDrop, dCont, dBreak, dAnd, dOr, dNot, dAndV, dOrV, dNotV, dIf, dChain, dWalk, dRange1, dRange2, dYes, wipeE, dgTup, dgTupT, dgCons, dgNil, dgSet, dAppend, dExtend, dPop, isOwnL, isOwn, dSl, dPart, dPartN, dLstRg, dTupRg, dRg1, dRg2, dCount, dRev, dRevT, dPar, dPar2, dPar3, asR3_e1, dSortedSetI, dSortedSetT, dSortedSetS, dEnum, dZip, dRevW, dIsi, dLZ, dGetS, dGet2, dDisp, dPairs_e1, dPairs_e2, asKey_e1, asKey_e2, asDict_e1, data_dic, asL1_e1, asL1_e2, asL2_e1, asL2_e2, isiInt_n, isiInt_b, isiInt_i, isiInt_s, isiInt_l, isiInt_t, isiBool_n, isiBool_b, isiBool_i, isiBool_s, isiBool_l, isiBool_t, isiStr_n, isiStr_b, isiStr_i, isiStr_s, isiStr_l, isiStr_t, isiTup_n, isiTup_b, isiTup_i, isiTup_s, isiTup_l, isiTup_t, isiLst_n, isiLst_b, isiLst_i, isiLst_s, isiLst_l, isiLst_t, dInG, dTru, dTruVar, dAug, sSum, sAll, sAny, sRepr, dBltVar, asIs_map, asBs_map, asSs_map, asD_e1, asD_e2, rdV_e1, rdV_e2, rdV_e3, rdV_e4, rdV_e5, asB_e1, truD_e1, truD_e2, truD_e3, truD_e4, truD_e5, truD_e6, truD_e7, truR_e1, truR_e2, truR_e3, asA_e1, asA_e2, asA_e3, asA_e4, asA_e5, allD_e1, allD_e2, asTL_e1, asTL_e2, asTup_e1, isOwnR_e1, putR_e1, asV_e1, asSeq_e1, asSeq_e2, asSeq_e3, asI1_e1, asI2_e1, sC_e1, sInt_e1, sIntB_e1, sI1_e1, vAdd_e1, vAdd_e2, vAdd_e3, vAdd_e4, vMul_e1, vMul_e2, vMul_e3, vMul_e4, eqD_e1, eqD_e2, eqD_e3, inSD_e1, inSDT_e1, isD_e1, vIx_e1, vIx_e2, vIx_e3, vSl_e1, vSl_e2, vSl_e3, okRet_e1, okRet_e2, okRet_e3, okRet_e4, asG_e1, rdM_e1, rdM_e2, rdM_e3, dStep, dGlb, dInM, dInKd, dListKd, dKeysKd, asKd, rdR_e1, rdR_e2, isOwnLR_e1, ownL_e1, asI_e1, sLen_e1, sLen_e2, sLen_e3, asBs_e1, asBs_e2, asIs_e1, asIs_e2, asSs_e1, asSs_e2, asLst_e1, vList_e1, vList_e2, vTuple_e1, vTuple_e2, sIntB1_e1, sStrN_e1, sStrN_e2, asR2_e1, eqD_tt, eqD_ll, eqD_nn, inSD_t, inSD_l, isD_n, allD_nil, allD_cons, data_lst, okRet_v, okRet_own,
  startE, List.length_cons, List.length_nil, Nat.zero_add, Nat.reduceAdd, Nat.reduceSub, Nat.sub_self, List.replicate_succ, List.replicate_zero, List.cons_append, List.nil_append, List.append_nil, List.getElem?_cons_zero, List.getElem?_cons_succ, List.set_cons_zero, List.set_cons_succ, List.map_cons, List.map_nil, ne_eq, not_false_eq_true, reduceCtorEq, List.cons.injEq, Rv.v.injEq, PyData.int.injEq, PyData.str.injEq, PyData.list.injEq, PyData.tuple.injEq, PyData.bool.injEq,
  and_assoc, Rv.own.injEq, Rv.glb.injEq, Rv.ab.injEq, Ct.lst.injEq, or_true, true_or, false_or, or_false, exists_const, true_and, and_true, Bool.false_xor, Bool.true_xor, Bool.false_bne, Bool.not_true, Bool.not_false, if_true, if_false, Bool.false_eq_true, ite_true, ite_false, exists_eq_left', exists_eq_left, exists_eq_right', exists_eq_right, exists_and_left, exists_and_right, Option.some.injEq])
/-! ## the program: are_let, by values -/
def rowD (r : List Int) : PyData := .tuple (rowP r)
def rowsD (R : List (List Int)) : List PyData := R.map rowD
def patD (p : List Bool) : PyData := .tuple (patP p)
def uniq {α β : Type} [DecidableEq β] (f : α → β) (l : List α) : List β := l.foldl (fun acc x => ins1 acc (f x)) []
theorem uniq_take {α β : Type} [DecidableEq β] (f : α → β) {l : List α} {i : Nat} {x : α} (h : l[i]? = some x) : uniq f (l.take (i + 1)) = ins1 (uniq f (l.take i)) (f x) := by
  unfold uniq
  rw [List.take_add_one, h, List.foldl_append]
  rfl
theorem uniq_fold {α β : Type} [DecidableEq β] (f : α → β) : ∀ (l : List α) (acc : List β) (y : β), y ∈ l.foldl (fun acc x => ins1 acc (f x)) acc ↔ y ∈ acc ∨ ∃ x ∈ l, y = f x
  | [], acc, y => by simp
  | x :: l, acc, y => by
    rw [List.foldl_cons, uniq_fold f l, ins1_mem]
    simp only [List.mem_cons, exists_eq_or_imp, or_assoc]
theorem uniq_mem {α β : Type} [DecidableEq β] (f : α → β) (l : List α) (y : β) : y ∈ uniq f l ↔ ∃ x ∈ l, y = f x := by
  rw [uniq, uniq_fold]
  simp
theorem uniq_flen {α β : Type} [DecidableEq β] (f : α → β) : ∀ (l : List α) (acc : List β), (l.foldl (fun acc x => ins1 acc (f x)) acc).length ≤ acc.length + l.length
  | [], acc => by simp
  | x :: l, acc => by
    have := uniq_flen f l (ins1 acc (f x))
    have := ins1_len acc (f x)
    rw [List.foldl_cons, List.length_cons]
    omega
theorem uniq_len {α β : Type} [DecidableEq β] (f : α → β) (l : List α) : (uniq f l).length ≤ l.length := by
  have h := uniq_flen f l []
  rw [List.length_nil, Nat.zero_add] at h
  exact h
theorem zip_rows : ∀ (r : List Int) (p : List Bool), zip2D (rowP r) (patP p) = (List.zip r p).map fun q => .tuple [.int q.1, .bool q.2]
  | [], _ => by cases ‹List Bool› <;> rfl
  | _ :: _, [] => rfl
  | x :: r, b :: p => congrArg (PyData.tuple [.int x, .bool b] :: ·) (zip_rows r p)
theorem in_pat (p : List Bool) : inD (.bool true) (patP p) = p.any id := by
  unfold inD patP
  induction p with
  | nil => rfl
  | cons b p ih =>
    rw [List.map_cons, List.any_cons, List.any_cons, ih]
    congr 1
    cases b <;> rfl
theorem flatD_row (r : List Int) : (rowP r).all flatD = true := by simp [rowP, flatD]
theorem flatD_pat (p : List Bool) : (patP p).all flatD = true := by simp [patP, flatD]
def badF : PyData → PyData
  | .tuple [.int x, .bool b] => .int (if b = true then -2 else x)
  | _ => .none
theorem bad_zip : ∀ (r : List Int) (p : List Bool), ((List.zip r p).map fun q => PyData.tuple [.int q.1, .bool q.2]).map badF = rowP (List.zipWith (fun x b => if b = true then -2 else x) r p)
  | [], _ => by cases ‹List Bool› <;> rfl
  | _ :: _, [] => rfl
  | x :: r, b :: p => congrArg (_ :: ·) (bad_zip r p)
section
variable {P : Program} {w : World} {K : PySem.W.Frag} {mg : Str → Option Value} {base : Heap}
def vSpoilt : DSp := fun rs P => ∃ (r : List Int) (p : List Bool), rs = [.v (rowD r), .v (patD p)] ∧ (r.length ≤ 1000 ∧ p.length ≤ 1000) ∧ P (.v (rowD (spoilI r p)))
abbrev s_spoilt : Stmt := top 6
theorem sc_spoilt : FnScope ["outcome", "pattern", "worth", "is_bad"] ["outcome", "pattern"] (defScope s_spoilt) := ⟨rfl, rfl, rfl, by decide +kernel, rfl, by decide +kernel, by decide +kernel⟩
theorem ok_v_spoilt {f : Addr} {fd : FuncData} (D : Df K mg "spoilt" s_spoilt f fd) (T : Tx K mg) {tBAD : Tok} (mBAD : mg "BAD" = some (.int (-2) tBAD)) : Cal P w K mg base "spoilt" ["outcome", "pattern"] 1 (spD vSpoilt) := by
  refine D.calD sc_spoilt (fun rs P h => ?_) (fun _ _ _ _ _ _ us hl => match us, hl with | [_, _], _ => rfl) (fun cdv A outer s H E hgu hr => ⟨_, (dsCons (dsIf (dtCmpR (pNotIn hr.u5) dBl (pv 1) (by rfl)) (dsOne (dsRetVar (pv 0))) dsNil) (dsOne (dsRet (dCallTy bTuple (by rfl) T.tuple (by decide +kernel) (daCons (dLcE (own := [("worth", 2), ("is_bad", 3)]) (by rfl) sc_spoilt.nd (diZip (by rfl) T.zip (daCons (dName (pv 0)) (daCons (dName (pv 1)) daNil))) (blkOk_by (own := [("worth", 2), ("is_bad", 3)]) (N := ["outcome", "pattern", "worth", "is_bad"]) (sc := defScope s_spoilt) (by decide +kernel)) (by decide) (fun _ _ _ _ _ => (dgTupE (n := 2) rfl (dgsCons (dgNameE (i := 2) (pg_name (i := 2) sc_spoilt.nd rfl (by first | exact Or.inl rfl | exact Or.inr rfl))) (dgsCons (dgNameE (i := 3) (pg_name (i := 3) sc_spoilt.nd rfl (by first | exact Or.inl rfl | exact Or.inr rfl))) dgsNil)))) (fun _ _ _ _ _ => dtsNil) (fun _ _ _ _ _ => (dIfE (dtTruVar (pv 3) (by intro _; rfl)) (dConst (d := .int (-2)) (pe_glob (v := .int (-2)) rfl mBAD ⟨_, rfl⟩) fun _ => .int _) (dName (pv 2))))) daNil))))), fun rs P h => ?_⟩)
  · obtain ⟨r, p, rfl, _⟩ := h
    rfl
  · obtain ⟨r, p, rfl, ⟨l1, l2⟩, h⟩ := h
    unfold rowD patD
    walk_at "rv"
    rw [in_pat]
    refine ⟨rfl, flatD_pat p, ?_⟩
    unfold spoilI at h
    by_cases ha : p.any id = true
    · rw [if_pos ha] at h
      refine iteN (by rw [ha]; rfl) ?_
      refine dLc_map (ds := (List.zip r p).map fun q => PyData.tuple [.int q.1, .bool q.2]) (e1 := [.v (.tuple (rowP r)), .v (.tuple (patP p)), .non, .non]) (fun C h => ?_) badF ?_ ?_ ?_
      · walk_at "rv"
        simp only [asL2, zip_rows]
        exact h
      · rw [List.length_map, List.length_zip]
        exact line_of (by omega)
      · intro d hd C h
        obtain ⟨⟨x, b⟩, _, rfl⟩ := List.mem_map.mp hd
        cases b <;> (walk_at "rv"; exact h)
      · rw [bad_zip]
        walk_at "rv"
        exact h
    · rw [if_neg ha] at h
      exact iteY (by simpa using ha) h
end
end Vf
set_option backward.eqns.nonrecursive true
namespace Vf
open PySem L2 PyProof.Rows PySem.Spec
local macro_rules | `(tactic| walk_at "rw") => `(tactic| (try (walk_at "rv"); simp only [dLc, dLc2, dFor, dWhile]; walk_at "rv"))
local macro_rules | `(tactic| walk_at "rv") => `(tactic| simp only [dSeq, dAsg, dCallD, dCallW, keySp, List.getD_cons_zero, List.getD_cons_succ, dgName, dCall, dCallK, dCons, dNil, dVar, dC, dIfS, dTest, dTup, dLst, dBlt, s1, s2, dBin, dUn, vSub, vFdiv, vMod, vPow, vShl, vShr, vAnd, vOr, vXor, vNeg, vInv, yesC, sLt, sLe, sGt, sGe, sEq, sNe, sIn, sNotIn, dBinL, dBinR, rdE, dIxVar, dRet, dRetVar, dRetN, dNext, dDrop, dCont, dBreak, dAnd, dOr, dNot, dAndV, dOrV, dNotV, dIf, dChain, dWalk, dRange1, dRange2, dYes, wipeE, dgTup, dgTupT, dgCons, dgNil, dgSet, dAppend, dExtend, dPop, isOwnL, isOwn, dSl, dPart, dPartN, dLstRg, dTupRg, dRg1, dRg2, dCount, dRev, dRevT, dPar, dPar2, dPar3, asR3_e1, dSortedSetI, dSortedSetT, dSortedSetS, dEnum, dZip, dRevW, dIsi, dLZ, dGetS, dGet2, dDisp, dPairs_e1, dPairs_e2, asKey_e1, asKey_e2, asDict_e1, data_dic, asL1_e1, asL1_e2, asL2_e1, asL2_e2, isiInt_n, isiInt_b, isiInt_i, isiInt_s, isiInt_l, isiInt_t, isiBool_n, isiBool_b, isiBool_i, isiBool_s, isiBool_l, isiBool_t, isiStr_n, isiStr_b, isiStr_i, isiStr_s, isiStr_l, isiStr_t, isiTup_n, isiTup_b, isiTup_i, isiTup_s, isiTup_l, isiTup_t, isiLst_n, isiLst_b, isiLst_i, isiLst_s, isiLst_l, isiLst_t, dInG, dTru, dTruVar, dAug, sSum, sAll, sAny, sRepr, dBltVar, asIs_map, asBs_map, asSs_map, asD_e1, asD_e2, rdV_e1, rdV_e2, rdV_e3, rdV_e4, rdV_e5, asB_e1, truD_e1, truD_e2, truD_e3, truD_e4, truD_e5, truD_e6, truD_e7, truR_e1, truR_e2, truR_e3, asA_e1, asA_e2, asA_e3, asA_e4, asA_e5, allD_e1, allD_e2, asTL_e1, asTL_e2, asTup_e1, isOwnR_e1, putR_e1, asV_e1, asSeq_e1, asSeq_e2, asSeq_e3, asI1_e1, asI2_e1, sC_e1, sInt_e1, sIntB_e1, sI1_e1, vAdd_e1, vAdd_e2, vAdd_e3, vAdd_e4, vMul_e1, vMul_e2, vMul_e3, vMul_e4, eqD_e1, eqD_e2, eqD_e3, inSD_e1, inSDT_e1, isD_e1, vIx_e1, vIx_e2, vIx_e3, vSl_e1, vSl_e2, vSl_e3, okRet_e1, okRet_e2, okRet_e3, okRet_e4, asG_e1, rdM_e1, rdM_e2, rdM_e3, dStep, dGlb, dInM, dInKd, dListKd, dKeysKd, asKd, rdR_e1, rdR_e2, isOwnLR_e1, ownL_e1, asI_e1, sLen_e1, sLen_e2, sLen_e3, asBs_e1, asBs_e2, asIs_e1, asIs_e2, asSs_e1, asSs_e2, asLst_e1, vList_e1, vList_e2, vTuple_e1, vTuple_e2, sIntB1_e1, sStrN_e1, sStrN_e2, asR2_e1, eqD_tt, eqD_ll, eqD_nn, inSD_t, inSD_l, isD_n, allD_nil, allD_cons, data_lst, okRet_v, okRet_own,
  startE, List.length_cons, List.length_nil, Nat.zero_add, Nat.reduceAdd, Nat.reduceSub, Nat.sub_self, List.replicate_succ, List.replicate_zero, List.cons_append, List.nil_append, List.append_nil, List.getElem?_cons_zero, List.getElem?_cons_succ, List.set_cons_zero, List.set_cons_succ, List.map_cons, List.map_nil, ne_eq, not_false_eq_true, reduceCtorEq, List.cons.injEq, Rv.v.injEq, PyData.int.injEq, PyData.str.injEq, PyData.list.injEq, PyData.tuple.injEq, PyData.bool.injEq,
  and_assoc, Rv.own.injEq, Rv.glb.injEq, Rv.ab.injEq, Ct.lst.injEq, or_true, true_or, false_or, or_false, exists_const, true_and, and_true, Bool.false_xor, Bool.true_xor, Bool.false_bne, Bool.not_true, Bool.not_false, if_true, if_false, Bool.false_eq_true, ite_true, ite_false, exists_eq_left', exists_eq_left, exists_eq_right', exists_eq_right, exists_and_left, exists_and_right, Option.some.injEq])
theorem vals_getD : ∀ {zs : List V} {ws : List Value}, Vals zs ws → ∀ i : Nat, RelV (zs.getD i .non) (ws.getD i .none)
  | _, _, .nil, _ => rfl
  | _, _, .cons a _, 0 => a
  | _, _, .cons _ t, i + 1 => by
    have := vals_getD t i
    simpa using this
theorem Df.fnV {K : PySem.W.Frag} {P : Program} {w : World} {base : Heap} {mg : Str → Option Value} {x : Str} {st : Stmt} {f : Addr} {fd : FuncData} {N ps : List Str} {k : Nat} {sp : DSp} (D : Df K mg x st f fd) (S : FnScope N ps (defScope st)) (many : ∀ rs P, sp rs P → rs.length = ps.length)
    (bd : ∀ (cdv : Value) (A : Around) (outer : List Env) (s : Shared) (H : Hp) (E : XK), (A.deeper (envOfC x (defScope st) s.heap.objs.size f cdv)).guards = some [] → Room k (A.deeper (envOfC x (defScope st) s.heap.objs.size f cdv)) →
      ∃ t, DSs (cxOf CX0 P w K mg base N x (defScope st) f cdv A outer s H E).nox (defBody st) t ∧ ∀ rs P, sp rs P → t ⟨fun _ => P (.v .none), okRet P, fun _ => False, fun _ => False⟩ (startE N rs)) : FnG P w K mg base CX0 (k + 1) f fd ps (spD sp) :=
  D.fnG S (fun vs H Q E ⟨F, G, rs, P, B, ok, h, q⟩ => by rw [ok.len]; exact many rs P h) fun cdv A outer s H vs Q E hgu hr ⟨F, G, rs, Pr, B, ok, h, q⟩ => by
    obtain ⟨t, h1, h2⟩ := bd cdv A outer s H E hgu hr
    exact ⟨_, h1, F.at H G, startE N rs, G, _, rl_start B ok, h2 rs Pr h, fin_end q⟩
theorem dDc_ex {P : Program} {w : World} {di : DTI} {g : DTG} {tt : DTT} {tk : DTE} {vs : List Nat} {en e1 : Ev} {ds : List PyData} {Q : Rv → Ev → Prop} (hdi : ∀ C : List PyData → Ev → Prop, C ds e1 → di en C) (K : Nat → List (List PyData) → Ev → Prop) (p0 : K 0 [] (wipeE e1 vs))
    (step : ∀ i d acc e, ds[i]? = some d → K i acc e → g (.v d) e fun e2 => tt e2 fun b e3 => if b = true then tk e3 fun r e4 => asD r fun y => asTup y fun ks => ks.all flatN = true ∧ acc.length < sizeLine ∧ K (i + 1) (addK acc ks) (wipeE e4 vs) else K (i + 1) acc (wipeE e3 vs))
    (last : ∀ acc e, K ds.length acc e → Q (.ab (kdA P w acc)) e) : dDcT P w di g tt tk vs en Q := hdi _ ⟨K, p0, step, last⟩
def okI (O : List (List Int)) (r : List Int) : Bool := decide (r ≠ [-3]) && O.any fun o => fitI r o
theorem ne3 (r : List Int) : PyData.eqv (.tuple (rowP r)) (.tuple [.int (-3)]) = decide (r = [-3]) := eqv_rowT r [-3]
theorem eq_bad (x : Int) : PyData.eqv (.int x) (.int (-2)) = decide (x = -2) := rfl
def isBad : PyData → PyData
  | .int x => .bool (decide (x = -2))
  | _ => .none
theorem bad_row (r : List Int) : (rowP r).map isBad = patP (badP r) := by
  unfold rowP patP badP
  rw [List.map_map, List.map_map]
  rfl
theorem uniq_len_take {α β : Type} [DecidableEq β] (f : α → β) (l : List α) (i : Nat) (h : l.length ≤ 1000) : (uniq f (l.take i)).length < sizeLine := by
  have := uniq_len f (l.take i)
  rw [List.length_take] at this
  exact Nat.lt_of_lt_of_le (show _ < 2000 by omega) (line_of (by decide))
section
variable {P : Program} {w : World} {K : PySem.W.Frag} {mg : Str → Option Value} {base : Heap}
def vCovered (P : Program) (w : World) : DSp := fun rs C => ∃ (r : List Int) (ps : List (List Bool)) (ks : List (List Int)), rs = [.v (rowD r), .v (.list (ps.map patD)), .ab (kdA P w (ks.map rowP))] ∧ (r.length ≤ 1000 ∧ ∀ p ∈ ps, p.length ≤ 1000) ∧ C (.v (.bool (ps.any fun p => decide (spoilI r p ∈ ks))))
abbrev s_is_covered : Stmt := top 4
theorem sc_is_covered : FnScope ["outcome", "patterns", "lets", "pattern"] ["outcome", "patterns", "lets"] (defScope s_is_covered) := ⟨rfl, rfl, rfl, by decide +kernel, rfl, by decide +kernel, by decide +kernel⟩
theorem ok_v_covered {f : Addr} {fd : FuncData} (D : Df K mg "is_covered" s_is_covered f fd) (T : Tx K mg) (v_spoilt : Cal P w K mg base "spoilt" ["outcome", "pattern"] 1 (spD vSpoilt)) : Cal P w K mg base "is_covered" ["outcome", "patterns", "lets"] 2 (spD (vCovered P w)) := by
  refine D.calD sc_is_covered (fun rs P h => ?_) (fun _ _ _ _ _ _ us hl => match us, hl with | [_, _, _], _ => rfl) (fun cdv A outer s H E hgu hr => ⟨_, (dsCons (dsFor PassesOwn.never rfl (diWalk (dName (pv 1))) (dgNameE (i := 3) (pg_name (i := 3) sc_is_covered.nd rfl (by first | exact Or.inl rfl | exact Or.inr rfl))) (dsOne (dsIf (dtInKdE hr.u9 (dCallE v_spoilt hgu (hr.mono (by omega)) (by rfl) (daCons (dName (pv 0)) (daCons (dName (pv 3)) daNil))) (dName (pv 2)) (by rfl)) (dsOne (dsRet dBl)) dsNil))) (dsOne (dsRet dBl))), fun rs C h => ?_⟩)
  · obtain ⟨r, p, ks, rfl, _⟩ := h
    rfl
  · obtain ⟨r, ps, ks, rfl, ⟨l1, l2⟩, h⟩ := h
    walk_at "rv"
    refine dFor_ex (ds := ps.map patD) (e1 := [.v (rowD r), .v (.list (ps.map patD)), .ab (kdA P w (ks.map rowP)), .non]) (fun C h => ?_)
      (fun i e => ∃ r3, ((ps.take i).any fun p => decide (spoilI r p ∈ ks)) = false ∧ e = [.v (rowD r), .v (.list (ps.map patD)), .ab (kdA P w (ks.map rowP)), r3]) ⟨_, rfl, rfl⟩ ?_ ?_
    · walk_at "rv"
      exact h
    · rintro i y e hy ⟨r3, hn, rfl⟩
      rw [List.getElem?_map, Option.map_eq_some_iff] at hy
      obtain ⟨p, hp, rfl⟩ := hy
      have tk := List.take_add_one (l := ps) (i := i)
      rw [hp] at tk
      walk_at "rv"
      refine ⟨r, p, rfl, ⟨l1, l2 p (List.mem_of_getElem? hp)⟩, ?_⟩
      unfold rowD
      walk_at "rv"
      refine ⟨ks.map rowP, rfl, flat_row _, ?_⟩
      rw [has_row]
      by_cases m : spoilI r p ∈ ks
      · refine iteY (decide_eq_true m) ?_
        have : (ps.any fun p => decide (spoilI r p ∈ ks)) = true := List.any_eq_true.mpr ⟨p, List.mem_of_getElem? hp, decide_eq_true m⟩
        rw [this] at h
        exact h
      · refine iteN (decide_eq_false m) ⟨?_, _, rfl⟩
        rw [tk, List.any_append, hn]
        simpa using m
    · rintro e ⟨r3, hn, rfl⟩
      walk_at "rv"
      rw [List.length_map, List.take_length] at hn
      rw [hn] at h
      exact h
def vBad (P : Program) (w : World) : DSp := fun rs C => ∃ ks : List (List Int), rs = [.ab (kdA P w (ks.map rowP))] ∧ (ks.length ≤ 1000 ∧ ∀ r ∈ ks, r.length ≤ 1000) ∧ C (.own (.lst ((uniq badP ks).map patD)))
abbrev s_bad_places : Stmt := top 5
theorem sc_bad_places : FnScope ["outcomes", "worth", "outcome"] ["outcomes"] (defScope s_bad_places) := ⟨rfl, rfl, rfl, by decide +kernel, rfl, by decide +kernel, by decide +kernel⟩
theorem ok_v_bad {f : Addr} {fd : FuncData} (D : Df K mg "bad_places" s_bad_places f fd) (T : Tx K mg) {tBAD : Tok} (mBAD : mg "BAD" = some (.int (-2) tBAD)) : Cal P w K mg base "bad_places" ["outcomes"] 1 (spD (vBad P w)) := by
  refine D.calD sc_bad_places (fun rs P h => ?_) (fun _ _ _ _ _ _ us hl => match us, hl with | [_], _ => rfl) (fun cdv A outer s H E hgu hr => ⟨_, (dsOne (dsRet (dListKdE rfl (by rfl) T.list (dDcTE hr.u8 (own := [("outcome", 2)]) (by rfl) sc_bad_places.nd (diKeysKd (dName (pv 0))) (blkOk_by (own := [("outcome", 2)]) (N := ["outcomes", "worth", "outcome"]) (sc := defScope s_bad_places) (by decide +kernel)) (by decide) (fun _ _ _ _ _ => (dgNameE (i := 2) (pg_name (i := 2) sc_bad_places.nd rfl (by first | exact Or.inl rfl | exact Or.inr rfl)))) (fun _ _ _ _ _ => dtsNil) (fun _ _ _ _ _ => (dCallTy bTuple (by rfl) T.tuple (by decide +kernel) (daCons (dLcE (own := [("worth", 1)]) (by rfl) sc_bad_places.nd (diWalk (dName (pv 2))) (blkOk_by (own := [("worth", 1)]) (by rfl)) (by decide) (fun _ _ _ _ _ => (dgNameE (i := 1) (pg_name (i := 1) sc_bad_places.nd rfl (by first | exact Or.inl rfl | exact Or.inr rfl)))) (fun _ _ _ _ _ => dtsNil) (fun _ _ _ _ _ => (dCmpL (pEq hr.units) (pv 1) (dConst (d := .int (-2)) (pe_glob (v := .int (-2)) rfl mBAD ⟨_, rfl⟩) fun _ => .int _) (by rfl)))) daNil))))))), fun rs C h => ?_⟩)
  · obtain ⟨ks, rfl, _⟩ := h
    rfl
  · obtain ⟨ks, rfl, ⟨l1, l2⟩, h⟩ := h
    walk_at "rv"
    refine dDc_ex (ds := (ks.map rowP).map .tuple) (e1 := [.ab (kdA P w (ks.map rowP)), .non, .non]) (fun C h => ?_) (fun i acc e => acc = (uniq badP (ks.take i)).map patP ∧ e = [.ab (kdA P w (ks.map rowP)), .non, .non]) ⟨rfl, rfl⟩ ?_ ?_
    · walk_at "rv"
      exact ⟨_, rfl, h⟩
    · rintro i y acc e hy ⟨rfl, rfl⟩
      rw [List.map_map, List.getElem?_map, Option.map_eq_some_iff] at hy
      obtain ⟨r, hr, rfl⟩ := hy
      have lr := l2 r (List.mem_of_getElem? hr)
      walk_at "rv"
      refine dLc_map (ds := rowP r) (e1 := [.ab (kdA P w (ks.map rowP)), .non, .v (.tuple (rowP r))]) (fun C h => ?_) isBad ?_ ?_ ?_
      · exact h
      · rw [rowP, List.length_map]
        exact line_of (by omega)
      · intro d hd C h
        obtain ⟨x, _, rfl⟩ := List.mem_map.mp hd
        walk_at "rv"
        exact h
      · rw [bad_row]
        walk_at "rv"
        simp only [asTup, List.length_map]
        refine ⟨flat_pat _, uniq_len_take badP ks i l1, ?_⟩
        rw [add_pat, uniq_take badP hr]
    · rintro acc e ⟨rfl, rfl⟩
      refine ⟨_, rfl, ?_⟩
      rw [List.length_map, List.length_map, List.take_length, List.map_map]
      exact h
def vLet : DSp := fun rs C => ∃ (n : Nat) (N O : List (List Int)), rs = [.v (.tuple (rowsD N)), .v (.tuple (rowsD O))] ∧ ((n ≤ 100 ∧ N.length ≤ 100 ∧ O.length ≤ 100) ∧ RowsOk n N ∧ RowsOk n O) ∧ C (.v (.bool (letP N O)))
abbrev s_are_let : Stmt := top 3
theorem sc_are_let : FnScope ["new", "old", "lets", "outcome", "patterns"] ["new", "old"] (defScope s_are_let) := ⟨rfl, rfl, rfl, by decide +kernel, rfl, by decide +kernel, by decide +kernel⟩
theorem fn_v_let {f : Addr} {fd : FuncData} (D : Df K mg "are_let" s_are_let f fd) (T : Tx K mg) {tFAULT : Tok} (mFAULT : mg "FAULT" = some (.int (-3) tFAULT)) (v_is_covered : Cal P w K mg base "is_covered" ["outcome", "patterns", "lets"] 2 (spD (vCovered P w))) (v_bad_places : Cal P w K mg base "bad_places" ["outcomes"] 1 (spD (vBad P w))) : FnG P w K mg base CX0 3 f fd ["new", "old"] (spD vLet) := by
  refine D.fnV sc_are_let (fun rs P h => ?_) (fun cdv A outer s H E hgu hr => ⟨_, (dsCons (dsSet (i := 2) sc_are_let.nd rfl (by first | exact Or.inl rfl | exact Or.inr rfl) (dDcTE hr.u8 (own := [("outcome", 3)]) (by rfl) sc_are_let.nd (diWalk (dName (pv 1))) (blkOk_by (own := [("outcome", 3)]) (N := ["new", "old", "lets", "outcome", "patterns"]) (sc := defScope s_are_let) (by decide +kernel)) (by decide) (fun _ _ _ _ _ => (dgNameE (i := 3) (pg_name (i := 3) sc_are_let.nd rfl (by first | exact Or.inl rfl | exact Or.inr rfl)))) (fun _ _ _ _ _ => dtsNil) (fun _ _ _ _ _ => (dName (pv 3))))) (dsCons (dsIf (dtInKdE hr.u9 (dTupE (daCons (dConst (d := .int (-3)) (pe_glob (v := .int (-3)) rfl mFAULT ⟨_, rfl⟩) fun _ => .int _) daNil)) (dName (pv 2)) (by rfl)) (dsOne (dsRet dBl)) dsNil) (dsCons (dsSet (i := 4) sc_are_let.nd rfl (by first | exact Or.inl rfl | exact Or.inr rfl) (dCallE v_bad_places hgu (hr.mono (by omega)) (by rfl) (daCons (dName (pv 2)) daNil))) (dsOne (dsRet (dCallB (bAll rfl) (by rfl) T.all (by decide +kernel) (daCons (dLcE (own := [("outcome", 3)]) (by rfl) sc_are_let.nd (diWalk (dName (pv 0))) (blkOk_by (own := [("outcome", 3)]) (N := ["new", "old", "lets", "outcome", "patterns"]) (sc := defScope s_are_let) (by decide +kernel)) (by decide) (fun _ _ _ _ _ => (dgNameE (i := 3) (pg_name (i := 3) sc_are_let.nd rfl (by first | exact Or.inl rfl | exact Or.inr rfl)))) (fun _ _ _ _ _ => dtsNil) (fun _ _ _ _ _ => (dAndE (dCmpL (pNe hr.units) (pv 3) (dTupE (daCons (dConst (d := .int (-3)) (pe_glob (v := .int (-3)) rfl mFAULT ⟨_, rfl⟩) fun _ => .int _) daNil)) (by rfl)) (dOne (dCallE v_is_covered hgu (hr.mono (by omega)) (by rfl) (daCons (dName (pv 3)) (daCons (dName (pv 4)) (daCons (dName (pv 2)) daNil)))))))) daNil))))))), fun rs C h => ?_⟩)
  · obtain ⟨n, N, O, rfl, _⟩ := h
    rfl
  · obtain ⟨n, N, O, rfl, ⟨⟨l1, l2, l3⟩, rN, rO⟩, h⟩ := h
    walk_at "rv"
    refine dDc_ex (ds := rowsD O) (e1 := [.v (.tuple (rowsD N)), .v (.tuple (rowsD O)), .non, .non, .non]) (fun C h => ?_) (fun i acc e => acc = (uniq id (O.take i)).map rowP ∧ e = [.v (.tuple (rowsD N)), .v (.tuple (rowsD O)), .non, .non, .non]) ⟨rfl, rfl⟩ ?_ ?_
    · exact h
    · rintro i y acc e hy ⟨rfl, rfl⟩
      rw [rowsD, List.getElem?_map, Option.map_eq_some_iff] at hy
      obtain ⟨r, hr, rfl⟩ := hy
      unfold rowD
      walk_at "rv"
      simp only [asTup, List.length_map]
      refine ⟨flat_row _, uniq_len_take id O i (by omega), ?_⟩
      rw [add_row, uniq_take id hr]
      rfl
    · rintro acc e ⟨rfl, rfl⟩
      have tl : O.take (rowsD O).length = O := by rw [rowsD, List.length_map, List.take_length]
      rw [tl]
      have hk : ∀ x, x ∈ uniq id O ↔ x ∈ O := fun x => by rw [uniq_mem]; simp
      walk_at "rv"
      refine ⟨line_of (by decide), _, rfl, rfl, ?_⟩
      rw [show [PyData.int (-3)] = rowP [-3] from rfl, has_row]
      by_cases h3 : [-3] ∈ O
      · refine iteY (decide_eq_true ((hk _).mpr h3)) ?_
        have : letP N O = true := by
          unfold letP
          rw [decide_eq_true h3, Bool.true_or]
        rw [this] at h
        exact h
      · refine iteN (decide_eq_false fun z => h3 ((hk _).mp z)) ?_
        have hO : ∀ o ∈ O, o.length = n := fun o ho => (rO o ho).resolve_left fun z => h3 (z ▸ ho)
        have lu := uniq_len id O
        refine ⟨uniq id O, rfl, ⟨by omega, fun r hr => ?_⟩, ?_⟩
        · rw [hO r ((hk _).mp hr)]
          omega
        generalize hp : uniq badP (uniq id O) = pats
        have hpm : ∀ p, p ∈ pats ↔ ∃ o ∈ O, p = badP o := fun p => by
          rw [← hp, uniq_mem]
          simp only [hk]
        have hl : ∀ p ∈ pats, p.length ≤ 1000 := fun p hp => by
          obtain ⟨o, ho, rfl⟩ := (hpm p).mp hp
          rw [badP, List.length_map, hO o ho]
          omega
        have key : ∀ r, r.length = n → (pats.any fun p => decide (spoilI r p ∈ uniq id O)) = O.any fun o => fitI r o := fun r hr => covered hr hO hk hpm
        refine dLc_ex (ds := rowsD N) (e1 := [.v (.tuple (rowsD N)), .v (.tuple (rowsD O)), .ab (kdA P w ((uniq id O).map rowP)), .non, .own (.lst (pats.map patD))]) (fun C h => ?_)
          (fun i acc e => ∃ r4, (r4 = .own (.lst (pats.map patD)) ∨ r4 = .v (.list (pats.map patD))) ∧ acc = ((N.take i).map (okI O)).map .bool ∧ e = [.v (.tuple (rowsD N)), .v (.tuple (rowsD O)), .ab (kdA P w ((uniq id O).map rowP)), .non, r4]) ⟨_, .inl rfl, rfl, rfl⟩ ?_ ?_
        · exact h
        · rintro i y acc e hy ⟨r4, h4, rfl, rfl⟩
          rw [rowsD, List.getElem?_map, Option.map_eq_some_iff] at hy
          obtain ⟨r, hr, rfl⟩ := hy
          have lt : (((N.take i).map (okI O)).map PyData.bool).length < sizeLine := by
            rw [List.length_map, List.length_map, List.length_take]
            exact Nat.lt_of_lt_of_le (show _ < 2000 by omega) (line_of (by decide))
          have tk : ((N.take (i + 1)).map (okI O)).map PyData.bool = ((N.take i).map (okI O)).map PyData.bool ++ [.bool (okI O r)] := by
            rw [List.take_add_one, hr, List.map_append, List.map_append]
            rfl
          rw [tk]
          have ne := ne3 r
          have rl := rN r (List.mem_of_getElem? hr)
          have fin : ∀ {C : PyData → Prop}, C (.bool (okI O r)) → r ≠ [-3] → vCovered P w [.v (rowD r), .v (.list (pats.map patD)), .ab (kdA P w ((uniq id O).map rowP))] fun z => asD z C := fun {C} h r3 => by
            have rn := rl.resolve_left r3
            refine ⟨r, pats, uniq id O, rfl, ⟨by omega, hl⟩, ?_⟩
            rw [key r rn]
            have : okI O r = O.any fun o => fitI r o := by
              unfold okI
              rw [decide_eq_true r3, Bool.true_and]
            rw [this] at h
            exact h
          by_cases r3 : r = [-3]
          · have ok : okI O r = false := by
              unfold okI
              rw [decide_eq_false (fun z => z r3), Bool.false_and]
            rw [ok]
            rcases h4 with rfl | rfl
            · walk_at "rv"
              refine ⟨line_of (by decide), ?_⟩
              unfold rowD
              walk_at "rv"
              exact ⟨shaped_row r, shaped_row [-3], iteN (by rw [ne]; simpa using r3) lt⟩
            · walk_at "rv"
              refine ⟨line_of (by decide), ?_⟩
              unfold rowD
              walk_at "rv"
              exact ⟨shaped_row r, shaped_row [-3], iteN (by rw [ne]; simpa using r3) lt⟩
          · rcases h4 with rfl | rfl
            · walk_at "rv"
              refine ⟨line_of (by decide), ?_⟩
              unfold rowD
              walk_at "rv"
              refine ⟨shaped_row r, shaped_row [-3], iteY (by rw [ne]; simpa using r3) (fin ⟨lt, _, .inr rfl, rfl, rfl⟩ r3)⟩
            · walk_at "rv"
              refine ⟨line_of (by decide), ?_⟩
              unfold rowD
              walk_at "rv"
              refine ⟨shaped_row r, shaped_row [-3], iteY (by rw [ne]; simpa using r3) (fin ⟨lt, _, .inr rfl, rfl, rfl⟩ r3)⟩
        · rintro acc e ⟨r4, h4, rfl, rfl⟩
          have tl : N.take (rowsD N).length = N := by rw [rowsD, List.length_map, List.take_length]
          rw [tl]
          walk_at "rv"
          have : (N.map (okI O)).all id = letP N O := by
            unfold letP
            rw [decide_eq_false h3, Bool.false_or, List.all_map]
            rfl
          rw [this]
          exact h
theorem ok_v_let {f : Addr} {fd : FuncData} (D : Df K mg "are_let" s_are_let f fd) (h : FnG P w K mg base CX0 3 f fd ["new", "old"] (spD vLet)) : Cal P w K mg base "are_let" ["new", "old"] 3 (spD vLet) := ⟨f, fd, h, D.gl, D.fn.kp, D.fn.binds fun _ _ _ _ _ _ us hl => match us, hl with | [_, _], _ => rfl⟩
end
end Vf
set_option backward.eqns.nonrecursive true
namespace Vf
open PySem L2 PyProof.Rows PySem.Spec
local macro_rules | `(tactic| walk_at "rw") => `(tactic| (try (walk_at "rv"); simp only [dLc, dLc2, dFor, dWhile]; walk_at "rv"))
local macro_rules | `(tactic| walk_at "rv") => `(tactic| simp only [dSeq, dAsg, dCallD, dCallW, keySp, List.getD_cons_zero, List.getD_cons_succ, dgName, dCall, dCallK, dCons, dNil, dVar, dC, dIfS, dTest, dTup, dLst, dBlt, s1, s2, dBin, dUn, vSub, vFdiv, vMod, vPow, vShl, vShr, vAnd, vOr, vXor, vNeg, vInv, yesC, sLt, sLe, sGt, sGe, sEq, sNe, sIn, sNotIn, dBinL, dBinR, rdE, dIxVar, dRet, dRetVar, dRetN, dNext, dDrop, dCont, dBreak, dAnd, dOr, dNot, dAndV, dOrV, dNotV, dIf, dChain, dWalk, dRange1, dRange2, dYes, wipeE, dgTup, dgTupT, dgCons, dgNil, dgSet, dAppend, dExtend, dPop, isOwnL, isOwn, dSl, dPart, dPartN, dLstRg, dTupRg, dRg1, dRg2, dCount, dRev, dRevT, dPar, dPar2, dPar3, asR3_e1, dSortedSetI, dSortedSetT, dSortedSetS, dEnum, dZip, dRevW, dIsi, dLZ, dGetS, dGet2, dDisp, dPairs_e1, dPairs_e2, asKey_e1, asKey_e2, asDict_e1, data_dic, asL1_e1, asL1_e2, asL2_e1, asL2_e2, isiInt_n, isiInt_b, isiInt_i, isiInt_s, isiInt_l, isiInt_t, isiBool_n, isiBool_b, isiBool_i, isiBool_s, isiBool_l, isiBool_t, isiStr_n, isiStr_b, isiStr_i, isiStr_s, isiStr_l, isiStr_t, isiTup_n, isiTup_b, isiTup_i, isiTup_s, isiTup_l, isiTup_t, isiLst_n, isiLst_b, isiLst_i, isiLst_s, isiLst_l, isiLst_t, dInG, dTru, dTruVar, dAug, sSum, sAll, sAny, sRepr, dBltVar, asIs_map, asBs_map, asSs_map, asD_e1, asD_e2, rdV_e1, rdV_e2, rdV_e3, rdV_e4, rdV_e5, asB_e1, truD_e1, truD_e2, truD_e3, truD_e4, truD_e5, truD_e6, truD_e7, truR_e1, truR_e2, truR_e3, asA_e1, asA_e2, asA_e3, asA_e4, asA_e5, allD_e1, allD_e2, asTL_e1, asTL_e2, asTup_e1, isOwnR_e1, putR_e1, asV_e1, asSeq_e1, asSeq_e2, asSeq_e3, asI1_e1, asI2_e1, sC_e1, sInt_e1, sIntB_e1, sI1_e1, vAdd_e1, vAdd_e2, vAdd_e3, vAdd_e4, vMul_e1, vMul_e2, vMul_e3, vMul_e4, eqD_e1, eqD_e2, eqD_e3, inSD_e1, inSDT_e1, isD_e1, vIx_e1, vIx_e2, vIx_e3, vSl_e1, vSl_e2, vSl_e3, okRet_e1, okRet_e2, okRet_e3, okRet_e4, asG_e1, rdM_e1, rdM_e2, rdM_e3, dStep, dGlb, dInM, dInKd, dListKd, dKeysKd, asKd, rdR_e1, rdR_e2, isOwnLR_e1, ownL_e1, asI_e1, sLen_e1, sLen_e2, sLen_e3, asBs_e1, asBs_e2, asIs_e1, asIs_e2, asSs_e1, asSs_e2, asLst_e1, vList_e1, vList_e2, vTuple_e1, vTuple_e2, sIntB1_e1, sStrN_e1, sStrN_e2, asR2_e1, eqD_tt, eqD_ll, eqD_nn, inSD_t, inSD_l, isD_n, allD_nil, allD_cons, data_lst, okRet_v, okRet_own,
  startE, List.length_cons, List.length_nil, Nat.zero_add, Nat.reduceAdd, Nat.reduceSub, Nat.sub_self, List.replicate_succ, List.replicate_zero, List.cons_append, List.nil_append, List.append_nil, List.getElem?_cons_zero, List.getElem?_cons_succ, List.set_cons_zero, List.set_cons_succ, List.map_cons, List.map_nil, ne_eq, not_false_eq_true, reduceCtorEq, List.cons.injEq, Rv.v.injEq, PyData.int.injEq, PyData.str.injEq, PyData.list.injEq, PyData.tuple.injEq, PyData.bool.injEq,
  and_assoc, Rv.own.injEq, Rv.glb.injEq, Rv.ab.injEq, Ct.lst.injEq, or_true, true_or, false_or, or_false, exists_const, true_and, and_true, Bool.false_xor, Bool.true_xor, Bool.false_bne, Bool.not_true, Bool.not_false, if_true, if_false, Bool.false_eq_true, ite_true, ite_false, exists_eq_left', exists_eq_left, exists_eq_right', exists_eq_right, exists_and_left, exists_and_right, Option.some.injEq])
def Good (n : Nat) (r : List Int) : Prop := (r = [-3] ∨ r.length = n) ∧ ∀ i ∈ r, i.natAbs ≤ 99
def RowsG (n : Nat) (R : List (List Int)) : Prop := ∀ r ∈ R, Good n r
theorem RowsG.ok {n : Nat} {R : List (List Int)} (h : RowsG n R) : RowsOk n R := fun r hr => (h r hr).1
theorem good3 (n : Nat) : Good n [-3] := ⟨.inl rfl, by decide⟩
theorem good_snoc {n : Nat} {R : List (List Int)} {q : List Int} (h : RowsG n R) (hq : Good n q) : RowsG n (R ++ [q]) := fun z hz => by
  rcases List.mem_append.mp hz with k | k
  · exact h z k
  · rw [List.mem_singleton.mp k]
    exact hq
theorem len_sub {α : Type} [DecidableEq α] : ∀ {ms kss : List α}, ms.Nodup → (∀ k, k ∈ ms → k ∈ kss) → ms.length ≤ kss.length
  | [], _, _, _ => Nat.zero_le _
  | m :: ms, kss, n, h => by
    obtain ⟨n1, n2⟩ := List.nodup_cons.mp n
    have hm := h m List.mem_cons_self
    have ih := len_sub (ms := ms) (kss := kss.erase m) n2 fun k hk => (List.mem_erase_of_ne (fun z => n1 (by rw [← z]; exact hk))).mpr (h k (List.mem_cons_of_mem _ hk))
    have := List.length_erase_of_mem hm
    have : 0 < kss.length := List.length_pos_of_mem hm
    rw [List.length_cons]
    omega
theorem rise_nodup {ms : List (List Int)} (h : ms.Pairwise fun k l => lexI k l = true) : ms.Nodup := h.imp fun {a b} k z => by
  rw [z, lexI_self] at k
  cases k
/-- what sorted(set(rows)) asks and tells -/
theorem sorted_rows {n m : Nat} {R : List (List Int)} {Q : PyData → Prop} (hn : 1 ≤ n) (rR : RowsG n R) (hl : R.length ≤ m) (hm : m < 64) (h : ∀ R : List (List Int), RowsG n R ∧ R.length ≤ m → Q (.tuple (rowsD R))) :
    ∃ kss : List (List Int), rowsD R = kss.map tupI ∧ kss.length < 64 ∧ (∀ k : List Int, k ∈ kss → ¬k = []) ∧ ∀ ms : List (List Int), ms.Pairwise (fun k l => lexI k l = true) → ms.length < 64 → (∀ k : List Int, k ∈ ms ↔ k ∈ kss) → Q (.tuple (ms.map tupI)) := by
  refine ⟨R, rfl, by omega, fun k hk z => ?_, fun ms hp _ hk => h ms ⟨fun r hr => rR r ((hk r).mp hr), Nat.le_trans (len_sub (rise_nodup hp) fun k h => (hk k).mp h) hl⟩⟩
  subst z
  rcases (rR [] hk).1 with e | e
  · cases e
  · have e : 0 = n := e
    omega
def zipR (r o : List Int) : List PyData := (List.zip r o).map fun q => .tuple [.int q.1, .int q.2]
theorem zip_rr : ∀ (r o : List Int), zip2D (rowP r) (rowP o) = zipR r o
  | [], o => by cases o <;> rfl
  | _ :: _, [] => rfl
  | x :: r, b :: p => congrArg (PyData.tuple [.int x, .int b] :: ·) (zip_rr r p)
def badF2 : PyData → Option PyData
  | .tuple [.int a, .int b] => if decide (b = a) || decide (b = -2) then none else some (.int 1)
  | _ => none
def intOf : PyData → Int
  | .int x => x
  | _ => 0
theorem int_of (o : List Int) : (rowP o).map intOf = o := by
  unfold rowP
  rw [List.map_map]
  exact List.map_id o
def fitF (r : List Int) : PyData → Option PyData
  | .tuple ds => if fitI r (ds.map intOf) = true then some (.tuple ds) else none
  | _ => none
theorem fit_fm (r : List Int) (O : List (List Int)) : (rowsD O).filterMap (fitF r) = rowsD (O.filter (fitI r)) := by
  induction O with
  | nil => rfl
  | cons o O ih =>
    rw [rowsD, List.map_cons, List.filterMap_cons, List.filter_cons]
    unfold fitF rowD
    simp only [int_of]
    by_cases h : fitI r o = true
    · rw [if_pos h, if_pos h]
      exact congrArg (PyData.tuple (rowP o) :: ·) ih
    · rw [if_neg h, if_neg h]
      exact ih
theorem fm_row : ∀ r o : List Int, ∃ k, (zipR r o).filterMap badF2 = rowP (List.replicate k 1) ∧ (k = 0 ↔ fitI r o = true)
  | [], o => ⟨0, by cases o <;> rfl, by simp [fitI]⟩
  | _ :: _, [] => ⟨0, rfl, by simp [fitI]⟩
  | x :: r, y :: o => by
    obtain ⟨k, e, h⟩ := fm_row r o
    unfold zipR at e ⊢
    unfold fitI at h ⊢
    rw [List.zip_cons_cons, List.map_cons, List.filterMap_cons, e, List.zipWith_cons_cons, List.all_cons]
    unfold badF2
    by_cases c : (decide (y = x) || decide (y = -2)) = true
    · refine ⟨k, by simp only [c]; rfl, ?_⟩
      rw [id, c, Bool.true_and]
      exact h
    · refine ⟨k + 1, by simp only [c]; rfl, ?_⟩
      rw [id, Bool.eq_false_iff.mpr c, Bool.false_and]
      simp
theorem shaped_intL (r : List Int) : SeqAt.shaped (.list (rowP r)) = true := by
  have h := shaped_row r
  exact h
theorem eqv_ints (a b : List Int) : PyData.eqv (.list (rowP a)) (.list (rowP b)) = decide (a = b) := by
  rw [PyData.eqv]
  exact eqv_row a b
theorem nil_rows (X : List (List Int)) : PyData.eqv (.list (rowsD X)) (.list []) = decide (X = []) := by
  cases X with
  | nil => rfl
  | cons x X => simp [rowsD, PyData.eqv, PyData.eqvAll]
def notF : PyData → Option PyData := fun d => if PyData.eqv d (.tuple [.int (-3)]) = true then none else some d
theorem not_fm (F : List (List Int)) : (rowsD F).filterMap notF = rowsD (F.filter fun r => decide (r ≠ [-3])) := by
  induction F with
  | nil => rfl
  | cons o O ih =>
    rw [rowsD, List.map_cons, List.filterMap_cons, List.filter_cons]
    unfold notF rowD
    rw [ne3]
    by_cases h : o = [-3]
    · rw [if_pos (decide_eq_true h), if_neg (by simpa using h)]
      exact ih
    · rw [if_neg (by simpa using h), if_pos (by simpa using h)]
      exact congrArg (PyData.tuple (rowP o) :: ·) ih
theorem atP0 {x : PyData} {xs : List PyData} : atI (x :: xs) 0 = some x := by
  unfold atI ixN
  rw [if_pos (by omega), if_pos (by simp only [List.length_cons]; omega)]
  rfl
theorem atP1 {x y : PyData} {xs : List PyData} : atI (x :: y :: xs) 1 = some y := by
  unfold atI ixN
  rw [if_pos (by omega), if_pos (by simp only [List.length_cons]; omega)]
  rfl
section
variable {P : Program} {w : World} {K : PySem.W.Frag} {mg : Str → Option Value} {base : Heap}
def vRow : DSp := fun rs P => ∃ n : Nat, rs = [.deck, .v (.int (n : Int))] ∧ n ≤ 3 ∧ ∀ r : List Int, r.length = n → (∀ i ∈ r, i.natAbs ≤ 99) → P (.v (rowD r))
abbrev s__law_row : Stmt := top 11
theorem sc__law_row : FnScope ["_law_deck_here", "_law_many", "_law_k"] ["_law_deck_here", "_law_many"] (defScope s__law_row) := ⟨rfl, rfl, rfl, by decide +kernel, rfl, by decide +kernel, by decide +kernel⟩
theorem ok_v_row {f : Addr} {fd : FuncData} (D : Df K mg "_law_row" s__law_row f fd) (T : Tx K mg) (v__law_pick : Cal P w K mg base "_law_pick" ["_law_deck_here", "_law_some"] 2 (spD vPick)) : Cal P w K mg base "_law_row" ["_law_deck_here", "_law_many"] 3 (spD vRow) := by
  refine D.calD sc__law_row (fun rs P h => ?_) (fun _ _ _ _ _ _ us hl => match us, hl with | [_, _], _ => rfl) (fun cdv A outer s H E hgu hr => ⟨_, (dsOne (dsRet (dCallTy bTuple (by rfl) T.tuple (by decide +kernel) (daCons (dLcE (own := [("_law_k", 2)]) (by rfl) sc__law_row.nd (diRange1 rfl T.range (daCons (dName (pv 1)) daNil)) (blkOk_by (own := [("_law_k", 2)]) (N := ["_law_deck_here", "_law_many", "_law_k"]) (sc := defScope s__law_row) (by decide +kernel)) (by decide) (fun _ _ _ _ _ => (dgNameE (i := 2) (pg_name (i := 2) sc__law_row.nd rfl (by first | exact Or.inl rfl | exact Or.inr rfl)))) (fun _ _ _ _ _ => dtsNil) (fun _ _ _ _ _ => (dCallE v__law_pick hgu (hr.mono (by omega)) (by rfl) (daCons (dName (pv 0)) (daCons (dLstE (daCons (dUnary oNeg dInt) (daCons dInt (daCons dInt (daCons dInt (daCons dInt (daCons dInt daNil))))))) daNil))))) daNil)))), fun rs P h => ?_⟩)
  · obtain ⟨n, rfl, _⟩ := h
    rfl
  · obtain ⟨n, rfl, hn, h⟩ := h
    walk_at "rv"
    refine dLc_ex (ds := wholesD 0 n) (e1 := [.deck, .v (.int (n : Int)), .non]) (fun C h => ?_) (fun i acc e => ∃ xs : List Int, xs.length = i ∧ (∀ i ∈ xs, i.natAbs ≤ 99) ∧ acc = rowP xs ∧ e = [.deck, .v (.int (n : Int)), .non]) ⟨[], rfl, fun _ h => absurd h List.not_mem_nil, rfl, rfl⟩ ?_ ?_
    · walk_at "rv"
      refine ⟨by omega, by omega, ?_⟩
      rw [Int.toNat_natCast]
      exact h
    · rintro i y acc e hy ⟨xs, hx, hs, rfl, rfl⟩
      have hi := (wholesD_at hy).1
      walk_at "rv"
      refine ⟨line_of (by decide), _, rfl, ⟨by decide, by decide⟩, fun d hd => ?_⟩
      have : ∃ z : Int, d = .int z ∧ z.natAbs ≤ 99 := by
        simp only [List.mem_cons, List.not_mem_nil, or_false] at hd
        rcases hd with rfl | rfl | rfl | rfl | rfl | rfl <;> exact ⟨_, rfl, by decide⟩
      obtain ⟨z, rfl, hz⟩ := this
      walk_at "rv"
      refine ⟨?_, xs ++ [z], ?_, ?_, ?_⟩
      · rw [rowP, List.length_map, hx]
        exact Nat.lt_of_lt_of_le (show i < 1000 by omega) (line_of (by decide))
      · rw [List.length_append, hx]
        rfl
      · intro q hq
        rcases List.mem_append.mp hq with k | k
        · exact hs q k
        · rw [List.mem_singleton.mp k]
          exact hz
      · rw [rowP, rowP, List.map_append]
        rfl
    · rintro acc e ⟨xs, hx, hs, rfl, rfl⟩
      rw [wholesD_len] at hx
      walk_at "rv"
      exact h xs hx hs
def vOuts : DSp := fun rs P => ∃ n : Nat, rs = [.deck, .v (.int (n : Int))] ∧ (1 ≤ n ∧ n ≤ 3) ∧ ∀ R : List (List Int), (RowsG n R ∧ R.length ≤ 20) → P (.v (.tuple (rowsD R)))
abbrev s__law_outcomes_drawn : Stmt := top 12
theorem sc__law_outcomes_drawn : FnScope ["_law_deck_here", "_law_many", "_law_fault", "_law_some", "_law_k"] ["_law_deck_here", "_law_many"] (defScope s__law_outcomes_drawn) := ⟨rfl, rfl, rfl, by decide +kernel, rfl, by decide +kernel, by decide +kernel⟩
theorem ok_v_outs {f : Addr} {fd : FuncData} (D : Df K mg "_law_outcomes_drawn" s__law_outcomes_drawn f fd) (T : Tx K mg) (v__law_draw : Cal P w K mg base "_law_draw" ["_law_deck_here", "_law_many"] 1 (spD vDraw)) (v__law_row : Cal P w K mg base "_law_row" ["_law_deck_here", "_law_many"] 3 (spD vRow)) : Cal P w K mg base "_law_outcomes_drawn" ["_law_deck_here", "_law_many"] 4 (spD vOuts) := by
  refine D.calD sc__law_outcomes_drawn (fun rs P h => ?_) (fun _ _ _ _ _ _ us hl => match us, hl with | [_, _], _ => rfl) (fun cdv A outer s H E hgu hr => ⟨_, (dsCons (dsSet (i := 2) sc__law_outcomes_drawn.nd rfl (by first | exact Or.inl rfl | exact Or.inr rfl) (dCmp (oEq hr.units) (dCallE v__law_draw hgu (hr.mono (by omega)) (by rfl) (daCons (dName (pv 0)) (daCons dInt daNil))) dInt (by rfl))) (dsCons (dsSetLc (i := 3) (own := [("_law_k", 4)]) (by rfl) sc__law_outcomes_drawn.nd rfl rfl (sw_true rfl rfl rfl (by decide +kernel)) (diRange1 rfl T.range (daCons (dCallE v__law_draw hgu (hr.mono (by omega)) (by rfl) (daCons (dName (pv 0)) (daCons dInt daNil))) daNil)) (blkOk_by (own := [("_law_k", 4)]) (N := ["_law_deck_here", "_law_many", "_law_fault", "_law_some", "_law_k"]) (sc := defScope s__law_outcomes_drawn) (by decide +kernel)) (by decide) (fun _ _ _ _ _ => (dgNameE (i := 4) (pg_name (i := 4) sc__law_outcomes_drawn.nd rfl (by first | exact Or.inl rfl | exact Or.inr rfl)))) (fun _ _ _ _ _ => dtsNil) (fun _ _ _ _ _ => (dCallE v__law_row hgu (hr.mono (by omega)) (by rfl) (daCons (dName (pv 0)) (daCons (dName (pv 1)) daNil))))) (dsCons (dsIf (DW.dt (dwOr (dtCmpL (pEq hr.units) (pv 3) (dLstE daNil) (by rfl)) (dwOr1 (dtTruVar (pv 2) (by intro _; rfl))))) (dsOne (dsExpr (dAppendE (pv 3) (dTupE (daCons (dUnary oNeg dInt) daNil))))) dsNil) (dsOne (dsRet (dCallTy bTuple (by rfl) T.tuple (by decide +kernel) (daCons (dSortedSetTE rfl (hr.u64) (by rfl) T.sorted (by rfl) T.set (dName (pv 3))) daNil))))))), fun rs P h => ?_⟩)
  · obtain ⟨n, rfl, _⟩ := h
    rfl
  · obtain ⟨n, rfl, ⟨hn, hn3⟩, h⟩ := h
    refine vcut fun u hu => ?_
    walk_at "rv"
    refine ⟨4, rfl, by decide, fun r r0 r1 => ?_⟩
    walk_at "rv"
    generalize decide (r = 0) = b
    subst hu
    refine vcut fun u hu => ?_
    walk_at "rv"
    refine dLc_exW (e1 := [.deck, .v (.int (n : Int)), .v (.bool b), .non, .non]) (fun ds => ds.length ≤ 7) (fun C hC => ?_) (fun i acc e => ∃ R : List (List Int), RowsG n R ∧ R.length = i ∧ acc = rowsD R ∧ e = [.deck, .v (.int (n : Int)), .v (.bool b), .non, .non]) ⟨[], fun _ h => absurd h List.not_mem_nil, rfl, rfl, rfl⟩ ?_ ?_
    · walk_at "rv"
      refine ⟨7, rfl, by decide, fun r r0 r1 => ?_⟩
      walk_at "rv"
      exact ⟨by omega, by omega, hC _ (by rw [wholesD_len]; omega)⟩
    · rintro ds hd i y acc e hy ⟨R, hR, hi, rfl, rfl⟩
      have hi7 : i < 7 := Nat.lt_of_lt_of_le (List.getElem?_eq_some_iff.mp hy).1 hd
      walk_at "rv"
      refine ⟨n, rfl, hn3, fun r hr hs => ?_⟩
      walk_at "rv"
      refine ⟨?_, R ++ [r], ?_, ?_, ?_⟩
      · rw [rowsD, List.length_map, hi]
        exact Nat.lt_of_lt_of_le (show i < 1000 by omega) (line_of (by decide))
      · exact good_snoc hR ⟨.inr hr, hs⟩
      · rw [List.length_append, hi]
        rfl
      · rw [rowsD, rowsD, List.map_append]
        rfl
    · rintro ds hd acc e ⟨R, hR, hl, rfl, rfl⟩
      subst hu
      have h' : ∀ R : List (List Int), RowsG n R ∧ R.length ≤ 8 → P (.v (.tuple (rowsD R))) := fun R hR => h R ⟨hR.1, by omega⟩
      have more : ∃ R2 : List (List Int), rowsD R ++ [.tuple [.int (-3)]] = rowsD R2 ∧ RowsG n R2 ∧ R2.length ≤ 8 := ⟨R ++ [[-3]], by rw [rowsD, rowsD, List.map_append]; rfl, good_snoc hR (good3 n), by rw [List.length_append]; simp; omega⟩
      obtain ⟨R2, e2, hR2, hl2⟩ := more
      have app : (rowsD R).length < sizeLine := by
        rw [rowsD, List.length_map]
        exact Nat.lt_of_lt_of_le (show R.length < 1000 by omega) (line_of (by decide))
      have srt := fun R h1 h2 => sorted_rows (Q := fun d => P (.v d)) (R := R) hn h1 h2 (by decide) h'
      walk_at "rv"
      refine ⟨Nat.zero_le _, (shaped_rows R).2, by decide +kernel, ?_⟩
      rw [e2]
      split
      · exact ⟨line_of (by decide), app, srt R2 hR2 hl2⟩
      split
      · exact ⟨line_of (by decide), app, srt R2 hR2 hl2⟩
      · exact srt R hR (by omega)
def vNear : DSp := fun rs P => ∃ (n : Nat) (R : List (List Int)), rs = [.deck, .v (.tuple (rowsD R))] ∧ ((1 ≤ n ∧ n ≤ 3) ∧ RowsG n R ∧ R.length ≤ 20) ∧ ∀ R : List (List Int), (RowsG n R ∧ R.length ≤ 22) → P (.v (.tuple (rowsD R)))
abbrev s__law_near : Stmt := top 13
theorem sc__law_near : FnScope ["_law_deck_here", "_law_some", "_law_way", "_law_found", "_law_row_here", "_law_at", "_law_worth"] ["_law_deck_here", "_law_some"] (defScope s__law_near) := ⟨rfl, rfl, rfl, by decide +kernel, rfl, by decide +kernel, by decide +kernel⟩
theorem ok_v_near {f : Addr} {fd : FuncData} (D : Df K mg "_law_near" s__law_near f fd) (T : Tx K mg) (v__law_draw : Cal P w K mg base "_law_draw" ["_law_deck_here", "_law_many"] 1 (spD vDraw)) : Cal P w K mg base "_law_near" ["_law_deck_here", "_law_some"] 4 (spD vNear) := by
  refine D.calD sc__law_near (fun rs P h => ?_) (fun _ _ _ _ _ _ us hl => match us, hl with | [_, _], _ => rfl) (fun cdv A outer s H E hgu hr => ⟨_, (dsCons (dsSet (i := 2) sc__law_near.nd rfl (by first | exact Or.inl rfl | exact Or.inr rfl) (dCallE v__law_draw hgu (hr.mono (by omega)) (by rfl) (daCons (dName (pv 0)) (daCons dInt daNil)))) (dsCons (dsSet (i := 3) sc__law_near.nd rfl (by first | exact Or.inl rfl | exact Or.inr rfl) (dLstE daNil)) (dsCons (dsFor PassesOwn.never rfl (diWalk (dName (pv 1))) (dgNameE (i := 4) (pg_name (i := 4) sc__law_near.nd rfl (by first | exact Or.inl rfl | exact Or.inr rfl))) (dsCons (dsSet (i := 5) sc__law_near.nd rfl (by first | exact Or.inl rfl | exact Or.inr rfl) (dCallE v__law_draw hgu (hr.mono (by omega)) (by rfl) (daCons (dName (pv 0)) (daCons (dCallBV bLenP (by rfl) T.len (by decide +kernel) (pv 4)) daNil)))) (dsCons (dsSet (i := 6) sc__law_near.nd rfl (by first | exact Or.inl rfl | exact Or.inr rfl) (dIx oIx (dLstE (daCons (dIxVarE (pv 4) (dName (pv 5)) (fun _ _ => rfl)) (daCons (dUnary oNeg dInt) (daCons (dCallE v__law_draw hgu (hr.mono (by omega)) (by rfl) (daCons (dName (pv 0)) (daCons dInt daNil))) (daCons (dIxVarE (pv 4) (dName (pv 5)) (fun _ _ => rfl)) daNil))))) (dCallE v__law_draw hgu (hr.mono (by omega)) (by rfl) (daCons (dName (pv 0)) (daCons dInt daNil))) (fun _ _ => rfl))) (dsOne (dsExpr (dAppendE (pv 3) (dIx oIx (dLstE (daCons (dOp oAdd (dOp oAdd (dSlE (dName (pv 4)) doNone (doSome (dName (pv 5)))) (dTupE (daCons (dName (pv 6)) daNil))) (dSlE (dName (pv 4)) (doSome (dOp oAdd (dName (pv 5)) dInt)) doNone)) (daCons (dName (pv 4)) daNil))) (dCallTy bIntB (by rfl) T.int (by decide +kernel) (daCons (dCmpL (pEq hr.units) (pv 4) (dTupE (daCons (dUnary oNeg dInt) daNil)) (by rfl)) daNil)) (fun _ _ => rfl)))))))) (dsCons (dsIf (dtCmpL (pEq hr.units) (pv 2) dInt (by rfl)) (dsOne (dsSet (i := 3) sc__law_near.nd rfl (by first | exact Or.inl rfl | exact Or.inr rfl) (dSlE (dName (pv 3)) (doSome dInt) doNone))) dsNil) (dsCons (dsIf (dtCmpL (pEq hr.units) (pv 2) dInt (by rfl)) (dsOne (dsSetLc (i := 3) (own := [("_law_row_here", 4)]) (by rfl) sc__law_near.nd rfl rfl (sw_true rfl rfl rfl (by decide +kernel)) (diWalk (dName (pv 3))) (blkOk_by (own := [("_law_row_here", 4)]) (N := ["_law_deck_here", "_law_some", "_law_way", "_law_found", "_law_row_here", "_law_at", "_law_worth"]) (sc := defScope s__law_near) (by decide +kernel)) (by decide) (fun _ _ _ _ _ => (dgNameE (i := 4) (pg_name (i := 4) sc__law_near.nd rfl (by first | exact Or.inl rfl | exact Or.inr rfl)))) (fun _ _ _ _ _ => (dtsOne (dtCmpL (pNe hr.units) (pv 4) (dTupE (daCons (dUnary oNeg dInt) daNil)) (by rfl)))) (fun _ _ _ _ _ => (dName (pv 4))))) dsNil) (dsCons (dsIf (DW.dt (dwOr (dtCmpL (pEq hr.units) (pv 2) dInt (by rfl)) (dwOr1 (dtCmpL (pEq hr.units) (pv 3) (dLstE daNil) (by rfl))))) (dsOne (dsExpr (dAppendE (pv 3) (dTupE (daCons (dUnary oNeg dInt) daNil))))) dsNil) (dsOne (dsRet (dCallTy bTuple (by rfl) T.tuple (by decide +kernel) (daCons (dSortedSetTE rfl (hr.u64) (by rfl) T.sorted (by rfl) T.set (dName (pv 3))) daNil)))))))))), fun rs P h => ?_⟩)
  · obtain ⟨n, R, rfl, _⟩ := h
    rfl
  · obtain ⟨n, R, rfl, ⟨⟨hn, hn3⟩, rR, lR⟩, h⟩ := h
    refine vcut fun u hu => ?_
    walk_at "rv"
    refine ⟨5, rfl, by decide, fun way w0 w1 => ?_⟩
    subst hu
    refine vcut fun u hu => ?_
    walk_at "rv"
    refine ⟨Nat.zero_le _, ?_⟩
    subst hu
    refine vcutE fun u D1 hu hD1 => ?_
    refine dFor_ex (ds := rowsD R) (e1 := [.deck, .v (.tuple (rowsD R)), .v (.int way), .own (.lst []), .non, .non, .non]) (fun C h => ?_)
      (fun i e => ∃ (F : List (List Int)) (r4 r5 r6 : Rv), RowsG n F ∧ F.length = i ∧ e = [.deck, .v (.tuple (rowsD R)), .v (.int way), .own (.lst (rowsD F)), r4, r5, r6]) ⟨[], _, _, _, fun _ h => absurd h List.not_mem_nil, rfl, rfl⟩ ?_ ?_
    · walk_at "rv"
      exact h
    · rintro i y e hy ⟨F, r4, r5, r6, hF, hi, rfl⟩
      have hi2 : i < 20 := Nat.lt_of_lt_of_le (List.getElem?_eq_some_iff.mp hy).1 (by rw [rowsD, List.length_map]; exact lR)
      rw [rowsD, List.getElem?_map, Option.map_eq_some_iff] at hy
      obtain ⟨r, hr, rfl⟩ := hy
      obtain ⟨hrn, hrs⟩ := rR r (List.mem_of_getElem? hr)
      have r1 : 1 ≤ r.length ∧ r.length ≤ 3 := by
        rcases hrn with rfl | e
        · decide
        · omega
      have rl : (rowP r).length = r.length := by rw [rowP, List.length_map]
      unfold rowD
      refine vcut fun u2 hu2 => ?_
      walk_at "rv"
      refine ⟨_, rfl, by rw [rl]; omega, fun at_ a0 a1 => ?_⟩
      rw [rl] at a1
      subst hu2
      refine vcut fun u2 hu2 => ?_
      walk_at "rv"
      obtain ⟨x, ex, hx⟩ : ∃ x : Int, atI (rowP r) at_ = some (.int x) ∧ x.natAbs ≤ 99 := by
        obtain ⟨z, ez, hz⟩ := atI_mem (xs := rowP r) a0 (by rw [rl]; exact a1)
        obtain ⟨x, hx, rfl⟩ := List.mem_map.mp hz
        exact ⟨x, ez, hrs x hx⟩
      refine ⟨_, ex, _, rfl, by decide, fun d1 g0 g1 => ?_⟩
      walk_at "rv"
      refine ⟨_, ex, line_of (by decide), _, rfl, by decide, fun d2 k0 k1 => ?_⟩
      walk_at "rv"
      obtain ⟨z, ez, hz⟩ := atI_mem (xs := [PyData.int x, .int (-2), .int d1, .int x]) k0 k1
      obtain ⟨v, rfl, hv⟩ : ∃ v : Int, z = .int v ∧ v.natAbs ≤ 99 := by
        simp only [List.mem_cons, List.not_mem_nil, or_false] at hz
        rcases hz with rfl | rfl | rfl | rfl
        · exact ⟨_, rfl, hx⟩
        · exact ⟨_, rfl, by decide⟩
        · exact ⟨_, rfl, by omega⟩
        · exact ⟨_, rfl, hx⟩
      refine ⟨_, ez, ?_⟩
      subst hu2
      walk_at "rv"
      have b0 : at_.toNat < r.length := by omega
      have ec : cutP (rowP r) none (some at_) ++ [PyData.int v] ++ cutP (rowP r) (some (at_ + 1)) none = rowP (r.take at_.toNat ++ [v] ++ r.drop (at_ + 1).toNat) := by
        rw [cutP_to a0, cutP_from (by omega)]
        unfold rowP
        rw [List.map_append, List.map_append, List.map_take, List.map_drop]
        rfl
      have el : (r.take at_.toNat ++ [v] ++ r.drop (at_ + 1).toNat).length = r.length := by
        have : (at_ + 1).toNat = at_.toNat + 1 := by omega
        rw [List.length_append, List.length_append, List.length_take, List.length_drop, this, List.length_singleton]
        omega
      have l1 : (cutP (rowP r) none (some at_)).length ≤ 3 := by
        rw [cutP_to a0, List.length_take, rl]
        omega
      have l2 : (cutP (rowP r) (some (at_ + 1)) none).length ≤ 3 := by
        rw [cutP_from (by omega), List.length_drop, rl]
        omega
      have snoc : ∀ q : List Int, Good n q → (rowsD F).length < sizeLine ∧ ∃ F1, RowsG n F1 ∧ F1.length = i + 1 ∧ rowsD F ++ [rowD q] = rowsD F1 := fun q hq => by
        refine ⟨?_, F ++ [q], ?_, ?_, ?_⟩
        · rw [rowsD, List.length_map, hi]
          exact Nat.lt_of_lt_of_le (show i < 1000 by omega) (line_of (by decide))
        · exact good_snoc hF hq
        · rw [List.length_append, hi]
          rfl
        · rw [rowsD, rowsD, List.map_append]
          rfl
      refine ⟨line_of (by decide), line_of (by omega), line_of (by rw [List.length_append, List.length_singleton]; omega), line_of (by decide), line_of (by decide), shaped_row r, shaped_row [-3], ?_⟩
      rw [ne3, ec]
      by_cases r3 : r = [-3]
      · rw [if_pos (decide_eq_true r3)]
        exact ⟨_, atP1, snoc r ⟨hrn, hrs⟩⟩
      · rw [if_neg (by simpa using r3)]
        refine ⟨_, atP0, snoc _ ⟨.inr (by rw [el]; exact hrn.resolve_left r3), fun q hq => ?_⟩⟩
        rcases List.mem_append.mp hq with k | k
        · rcases List.mem_append.mp k with k | k
          · exact hrs q (List.mem_of_mem_take k)
          · rw [List.mem_singleton.mp k]
            exact hv
        · exact hrs q (List.mem_of_mem_drop k)
    · rintro e ⟨F, r4, r5, r6, hF, hi, rfl⟩
      rw [rowsD, List.length_map] at hi
      subst hu hD1
      dsimp only
      have app : ∀ F : List (List Int), F.length ≤ 20 → (rowsD F).length < sizeLine := fun F h => by
        rw [rowsD, List.length_map]
        exact Nat.lt_of_lt_of_le (show F.length < 1000 by omega) (line_of (by decide))
      refine vcutE fun u D2 hu hD2 => ?_
      have s1 : ∀ (F : List (List Int)) (r4 r5 r6 : Rv), RowsG n F → F.length ≤ 20 → u D2 [.deck, .v (.tuple (rowsD R)), .v (.int way), .own (.lst (rowsD F)), r4, r5, r6] := by
        intro F r4 r5 r6 hF hl
        subst hu
        refine vcutE fun u3 D3 hu3 hD3 => ?_
        have s2 : ∀ (F : List (List Int)) (r4 r5 r6 : Rv), RowsG n F → F.length ≤ 20 → u3 D3 [.deck, .v (.tuple (rowsD R)), .v (.int way), .own (.lst (rowsD F)), r4, r5, r6] := by
          intro F r4 r5 r6 hF hl
          subst hu3 hD3 hD2
          have h' : ∀ R : List (List Int), RowsG n R ∧ R.length ≤ 21 → P (.v (.tuple (rowsD R))) := fun R hR => h R ⟨hR.1, by omega⟩
          have srt := fun R h1 h2 => sorted_rows (Q := fun d => P (.v d)) (R := R) hn h1 h2 (by decide) h'
          have e2 : rowsD F ++ [.tuple [.int (-3)]] = rowsD (F ++ [[-3]]) := by
            rw [rowsD, rowsD, List.map_append]
            rfl
          have hF2 : RowsG n (F ++ [[-3]]) := good_snoc hF (good3 n)
          have hl2 : (F ++ [[-3]]).length ≤ 21 := by
            rw [List.length_append, List.length_singleton]
            omega
          walk_at "rv"
          rw [e2]
          split
          · exact ⟨line_of (by decide), app F hl, srt _ hF2 hl2⟩
          refine ⟨Nat.zero_le _, (shaped_rows F).2, by decide +kernel, ?_⟩
          split
          · exact ⟨line_of (by decide), app F hl, srt _ hF2 hl2⟩
          · exact srt F hF (by omega)
        walk_at "rv"
        split
        · refine dLc_fm (ds := rowsD F) (e1 := [.deck, .v (.tuple (rowsD R)), .v (.int way), .v (.list (rowsD F)), r4, r5, r6]) (fun C h => ?_) notF ?_ ?_ ?_
          · walk_at "rv"
            exact h
          · exact Nat.le_of_lt (app F hl)
          · intro d hd C Nn hC hN
            obtain ⟨o, ho, rfl⟩ := List.mem_map.mp hd
            walk_at "rv"
            refine ⟨line_of (by decide), ?_⟩
            unfold rowD
            walk_at "rv"
            refine ⟨shaped_row o, shaped_row [-3], ?_⟩
            rw [ne3]
            by_cases e : o = [-3]
            · refine iteN (by rw [decide_eq_true e]; rfl) (hN ?_)
              unfold notF rowD
              rw [ne3, if_pos (decide_eq_true e)]
            · refine iteY (by rw [decide_eq_false e]; rfl) (hC _ ?_)
              unfold notF rowD
              rw [ne3, if_neg (by simpa using e)]
          · rw [not_fm]
            exact s2 _ _ _ _ (fun r hr => hF r (List.mem_filter.mp hr).1) (Nat.le_trans (List.length_filter_le _ _) hl)
        · exact s2 F _ _ _ hF hl
      walk_at "rv"
      split
      · have ed : cutP (rowsD F) (some 1) none = rowsD (F.drop 1) := by
          rw [cutP_from (by decide)]
          unfold rowsD
          rw [List.map_drop]
          rfl
        rw [ed]
        exact s1 _ _ _ _ (fun r hr => hF r (List.mem_of_mem_drop hr)) (by rw [List.length_drop]; omega)
      · exact s1 F _ _ _ hF (by omega)
def vIsLet : DSp := fun rs C => ∃ (N O : List (List Int)), rs = [.v (.tuple (rowsD N)), .v (.tuple (rowsD O))] ∧ (N.length ≤ 100 ∧ O.length ≤ 100 ∧ (∀ r ∈ N, r.length ≤ 100) ∧ ∀ r ∈ O, r.length ≤ 100) ∧ C (.v (.bool (letP N O)))
abbrev s__law_is_let : Stmt := top 14
theorem sc__law_is_let : FnScope ["_law_later", "_law_earlier", "_law_row_here", "_law_some", "_law_one", "_law_a", "_law_b"] ["_law_later", "_law_earlier"] (defScope s__law_is_let) := ⟨rfl, rfl, rfl, by decide +kernel, rfl, by decide +kernel, by decide +kernel⟩
theorem ok_v_islet {f : Addr} {fd : FuncData} (D : Df K mg "_law_is_let" s__law_is_let f fd) (T : Tx K mg) : Cal P w K mg base "_law_is_let" ["_law_later", "_law_earlier"] 1 (spD vIsLet) := by
  refine D.calD sc__law_is_let (fun rs P h => ?_) (fun _ _ _ _ _ _ us hl => match us, hl with | [_, _], _ => rfl) (fun cdv A outer s H E hgu hr => ⟨_, (dsCons (dsIf (dtCmpR (pInTT hr.u5) (dTupE (daCons (dUnary oNeg dInt) daNil)) (pv 1) (by rfl)) (dsOne (dsRet dBl)) dsNil) (dsCons (dsFor PassesOwn.never rfl (diWalk (dName (pv 0))) (dgNameE (i := 2) (pg_name (i := 2) sc__law_is_let.nd rfl (by first | exact Or.inl rfl | exact Or.inr rfl))) (dsCons (dsSetLc (i := 3) (own := [("_law_one", 4)]) (by rfl) sc__law_is_let.nd rfl rfl (sw_true rfl rfl rfl (by decide +kernel)) (diWalk (dName (pv 1))) (blkOk_by (own := [("_law_one", 4)]) (N := ["_law_later", "_law_earlier", "_law_row_here", "_law_some", "_law_one", "_law_a", "_law_b"]) (sc := defScope s__law_is_let) (by decide +kernel)) (by decide) (fun _ _ _ _ _ => (dgNameE (i := 4) (pg_name (i := 4) sc__law_is_let.nd rfl (by first | exact Or.inl rfl | exact Or.inr rfl)))) (fun _ _ _ _ _ => (dtsOne (dtCmp (oEq hr.units) (dLcE (own := [("_law_a", 5), ("_law_b", 6)]) (by rfl) sc__law_is_let.nd (diZip (by rfl) T.zip (daCons (dName (pv 2)) (daCons (dName (pv 4)) daNil))) (blkOk_by (own := [("_law_a", 5), ("_law_b", 6)]) (by rfl)) (by decide) (fun _ _ _ _ _ => (dgTupE (n := 2) rfl (dgsCons (dgNameE (i := 5) (pg_name (i := 5) sc__law_is_let.nd rfl (by first | exact Or.inl rfl | exact Or.inr rfl))) (dgsCons (dgNameE (i := 6) (pg_name (i := 6) sc__law_is_let.nd rfl (by first | exact Or.inl rfl | exact Or.inr rfl))) dgsNil)))) (fun _ _ _ _ _ => (dtsOne (DW.dt (dwAnd (dtCmpL (pNe hr.units) (pv 6) (dName (pv 5)) (by rfl)) (dwAnd1 (dtCmpL (pNe hr.units) (pv 6) (dUnary oNeg dInt) (by rfl))))))) (fun _ _ _ _ _ => dInt)) (dLstE daNil) (by rfl)))) (fun _ _ _ _ _ => (dName (pv 4)))) (dsOne (dsIf (DW.dt (dwOr (dtCmpL (pEq hr.units) (pv 2) (dTupE (daCons (dUnary oNeg dInt) daNil)) (by rfl)) (dwOr1 (dtCmpL (pEq hr.units) (pv 3) (dLstE daNil) (by rfl))))) (dsOne (dsRet dBl)) dsNil)))) (dsOne (dsRet dBl)))), fun rs P h => ?_⟩)
  · obtain ⟨N, O, rfl, _⟩ := h
    rfl
  · obtain ⟨N, O, rfl, ⟨lN, lO, lr, lo⟩, h⟩ := h
    walk_at "rv"
    refine ⟨line_of (by decide), (shaped_row [-3]), (shaped_rows O).1, ?_⟩
    rw [show PyData.tuple [.int (-3)] = .tuple (rowP [-3]) from rfl, show inD (.tuple (rowP [-3])) (rowsD O) = decide ([-3] ∈ O) from in_rows [-3] O]
    by_cases h3 : [-3] ∈ O
    · refine iteY (decide_eq_true h3) ?_
      have : letP N O = true := by
        unfold letP
        rw [decide_eq_true h3, Bool.true_or]
      rw [this] at h
      exact h
    refine iteN (decide_eq_false h3) ?_
    have hl : letP N O = N.all (okI O) := by
      unfold letP
      rw [decide_eq_false h3, Bool.false_or]
      rfl
    rw [hl] at h
    refine dFor_ex (ds := rowsD N) (e1 := [.v (.tuple (rowsD N)), .v (.tuple (rowsD O)), .non, .non, .non, .non, .non]) (fun C h => ?_)
      (fun i e => ∃ (r2 r3 : Rv), (N.take i).all (okI O) = true ∧ e = [.v (.tuple (rowsD N)), .v (.tuple (rowsD O)), r2, r3, .non, .non, .non]) ⟨_, _, rfl, rfl⟩ ?_ ?_
    · walk_at "rv"
      exact h
    · rintro i y e hy ⟨r2, r3, hall, rfl⟩
      rw [rowsD, List.getElem?_map, Option.map_eq_some_iff] at hy
      obtain ⟨r, hr, rfl⟩ := hy
      have lr := lr r (List.mem_of_getElem? hr)
      refine vcut fun u hu => ?_
      walk_at "rv"
      refine dLc_fm (ds := rowsD O) (e1 := [.v (.tuple (rowsD N)), .v (.tuple (rowsD O)), .v (rowD r), r3, .non, .non, .non]) (fun C h => ?_) (fitF r) ?_ ?_ ?_
      · walk_at "rv"
        exact h
      · rw [rowsD, List.length_map]
        exact line_of (by omega)
      · intro d hd C Nn hC hN
        obtain ⟨o, ho, rfl⟩ := List.mem_map.mp hd
        have lo := lo o ho
        unfold rowD
        walk_at "rv"
        refine dLc_fm (ds := zipR r o) (e1 := [.v (.tuple (rowsD N)), .v (.tuple (rowsD O)), .v (.tuple (rowP r)), r3, .v (.tuple (rowP o)), .non, .non]) (fun C h => ?_) badF2 ?_ ?_ ?_
        · walk_at "rv"
          rw [zip_rr]
          exact h
        · rw [zipR, List.length_map, List.length_zip]
          exact line_of (by omega)
        · intro d hd C N hC hN
          obtain ⟨⟨a, b⟩, hab, rfl⟩ := List.mem_map.mp hd
          walk_at "rv"
          by_cases c1 : b = a
          · exact iteN (by simp [c1]) (hN (by simp [badF2, c1]))
          refine iteY (by simp [c1]) ?_
          by_cases c2 : b = -2
          · exact iteN (by simp [c2]) (hN (by simp [badF2, c2]))
          · exact iteY (by simp [c2]) (hC _ (by simp [badF2, c1, c2]))
        · obtain ⟨k, ek, hk⟩ := fm_row r o
          rw [ek]
          walk_at "rv"
          refine ⟨Nat.zero_le _, shaped_intL _, by decide +kernel, ?_⟩
          rw [show PyData.list [] = .list (rowP []) from rfl, eqv_ints]
          by_cases hf : fitI r o = true
          · rw [hk.mpr hf]
            refine iteY rfl (hC _ ?_)
            simp only [fitF, rowD, int_of, if_pos hf]
          · refine iteN (decide_eq_false fun z => hf (hk.mp (by simpa using z))) (hN ?_)
            simp only [fitF, rowD, int_of, if_neg hf]
      · subst hu
        rw [fit_fm]
        walk_at "rv"
        refine ⟨line_of (by decide), ?_⟩
        unfold rowD
        walk_at "rv"
        refine ⟨shaped_row r, shaped_row [-3], ?_⟩
        have no : okI O r = false → P (.v (.bool false)) := fun e => by
          have : N.all (okI O) = false := by
            rw [List.all_eq_false]
            exact ⟨r, List.mem_of_getElem? hr, by rw [e]; decide⟩
          rw [this] at h
          exact h
        rw [ne3]
        by_cases r3 : r = [-3]
        · refine iteY (decide_eq_true r3) (no ?_)
          unfold okI
          rw [decide_eq_false fun z => z r3, Bool.false_and]
        refine iteN (decide_eq_false r3) ⟨Nat.zero_le _, (shaped_rows _).2, by decide +kernel, ?_⟩
        rw [nil_rows]
        have ok : okI O r = !decide (O.filter (fitI r) = []) := by
          unfold okI
          rw [decide_eq_true r3, Bool.true_and]
          by_cases e : O.filter (fitI r) = []
          · rw [decide_eq_true e]
            exact List.any_eq_false.mpr (List.filter_eq_nil_iff.mp e)
          · rw [decide_eq_false e]
            obtain ⟨o, ho⟩ := List.exists_mem_of_ne_nil _ e
            obtain ⟨h1, h2⟩ := List.mem_filter.mp ho
            exact List.any_eq_true.mpr ⟨o, h1, h2⟩
        by_cases e : O.filter (fitI r) = []
        · exact iteY (decide_eq_true e) (no (by rw [ok, decide_eq_true e]; rfl))
        · refine iteN (decide_eq_false e) ⟨?_, _, rfl⟩
          rw [List.take_add_one, hr, List.all_append, hall]
          show (true && ([r].all (okI O))) = true
          rw [List.all_cons, ok, decide_eq_false e]
          rfl
    · rintro e ⟨r2, r3, hall, rfl⟩
      rw [rowsD, List.length_map, List.take_length] at hall
      walk_at "rv"
      rw [hall] at h
      exact h
end
end Vf
set_option backward.eqns.nonrecursive true
namespace Vf
open PySem L2 PyProof.Rows PySem.Spec
local macro_rules | `(tactic| walk_at "rw") => `(tactic| (try (walk_at "rv"); simp only [dLc, dLc2, dFor, dWhile]; walk_at "rv"))
local macro_rules | `(tactic| walk_at "rv") => `(tactic| simp only [dSeq, dAsg, dCallD, dCallW, keySp, List.getD_cons_zero, List.getD_cons_succ, dgName, dCall, dCallK, dCons, dNil, dVar, dC, dIfS, dTest, dTup, dLst, dBlt, s1, s2, dBin, dUn, vSub, vFdiv, vMod, vPow, vShl, vShr, vAnd, vOr, vXor, vNeg, vInv, yesC, sLt, sLe, sGt, sGe, sEq, sNe, sIn, sNotIn, dBinL, dBinR, rdE, dIxVar, dRet, dRetVar, dRetN, dNext, dDrop, dCont, dBreak, dAnd, dOr, dNot, dAndV, dOrV, dNotV, dIf, dChain, dWalk, dRange1, dRange2, dYes, wipeE, dgTup, dgTupT, dgCons, dgNil, dgSet, dAppend, dExtend, dPop, isOwnL, isOwn, dSl, dPart, dPartN, dLstRg, dTupRg, dRg1, dRg2, dCount, dRev, dRevT, dPar, dPar2, dPar3, asR3_e1, dSortedSetI, dSortedSetT, dSortedSetS, dEnum, dZip, dRevW, dIsi, dLZ, dGetS, dGet2, dDisp, dPairs_e1, dPairs_e2, asKey_e1, asKey_e2, asDict_e1, data_dic, asL1_e1, asL1_e2, asL2_e1, asL2_e2, isiInt_n, isiInt_b, isiInt_i, isiInt_s, isiInt_l, isiInt_t, isiBool_n, isiBool_b, isiBool_i, isiBool_s, isiBool_l, isiBool_t, isiStr_n, isiStr_b, isiStr_i, isiStr_s, isiStr_l, isiStr_t, isiTup_n, isiTup_b, isiTup_i, isiTup_s, isiTup_l, isiTup_t, isiLst_n, isiLst_b, isiLst_i, isiLst_s, isiLst_l, isiLst_t, dInG, dTru, dTruVar, dAug, sSum, sAll, sAny, sRepr, dBltVar, asIs_map, asBs_map, asSs_map, asD_e1, asD_e2, rdV_e1, rdV_e2, rdV_e3, rdV_e4, rdV_e5, asB_e1, truD_e1, truD_e2, truD_e3, truD_e4, truD_e5, truD_e6, truD_e7, truR_e1, truR_e2, truR_e3, asA_e1, asA_e2, asA_e3, asA_e4, asA_e5, allD_e1, allD_e2, asTL_e1, asTL_e2, asTup_e1, isOwnR_e1, putR_e1, asV_e1, asSeq_e1, asSeq_e2, asSeq_e3, asI1_e1, asI2_e1, sC_e1, sInt_e1, sIntB_e1, sI1_e1, vAdd_e1, vAdd_e2, vAdd_e3, vAdd_e4, vMul_e1, vMul_e2, vMul_e3, vMul_e4, eqD_e1, eqD_e2, eqD_e3, inSD_e1, inSDT_e1, isD_e1, vIx_e1, vIx_e2, vIx_e3, vSl_e1, vSl_e2, vSl_e3, okRet_e1, okRet_e2, okRet_e3, okRet_e4, asG_e1, rdM_e1, rdM_e2, rdM_e3, dStep, dGlb, dInM, dInKd, dListKd, dKeysKd, asKd, rdR_e1, rdR_e2, isOwnLR_e1, ownL_e1, asI_e1, sLen_e1, sLen_e2, sLen_e3, asBs_e1, asBs_e2, asIs_e1, asIs_e2, asSs_e1, asSs_e2, asLst_e1, vList_e1, vList_e2, vTuple_e1, vTuple_e2, sIntB1_e1, sStrN_e1, sStrN_e2, asR2_e1, eqD_tt, eqD_ll, eqD_nn, inSD_t, inSD_l, isD_n, allD_nil, allD_cons, data_lst, okRet_v, okRet_own,
  startE, List.length_cons, List.length_nil, Nat.zero_add, Nat.reduceAdd, Nat.reduceSub, Nat.sub_self, List.replicate_succ, List.replicate_zero, List.cons_append, List.nil_append, List.append_nil, List.getElem?_cons_zero, List.getElem?_cons_succ, List.set_cons_zero, List.set_cons_succ, List.map_cons, List.map_nil, ne_eq, not_false_eq_true, reduceCtorEq, List.cons.injEq, Rv.v.injEq, PyData.int.injEq, PyData.str.injEq, PyData.list.injEq, PyData.tuple.injEq, PyData.bool.injEq,
  and_assoc, Rv.own.injEq, Rv.glb.injEq, Rv.ab.injEq, Ct.lst.injEq, or_true, true_or, false_or, or_false, exists_const, true_and, and_true, Bool.false_xor, Bool.true_xor, Bool.false_bne, Bool.not_true, Bool.not_false, if_true, if_false, Bool.false_eq_true, ite_true, ite_false, exists_eq_left', exists_eq_left, exists_eq_right', exists_eq_right, exists_and_left, exists_and_right, Option.some.injEq])
/-! ### what is shown of rows -/
theorem int3 {i : Int} (h : i.natAbs ≤ 99) : (PyData.shown (.int i)).length ≤ 3 ∧ PyData.showable (.int i) = true := by
  refine ⟨?_, (int_len (Nat.le_trans h (by decide))).2⟩
  have hd : (Nat.toDigits 10 i.natAbs).length ≤ 2 := digits10_le (by decide) (Nat.lt_of_le_of_lt h (by decide))
  have e : (PyData.shown (.int i)).length = (toString i).toList.length := by
    simp only [PyData.shown]
    show (Str.ofString (toString i)).length = _
    rw [Str.ofString_eq_toList]
    simp [Str.length]
  rw [e, Int.toString_eq_repr, Int.repr_eq_if]
  split
  · rw [Nat.toList_repr]
    have : i.toNat = i.natAbs := by omega
    rw [this]
    omega
  · rw [String.toList_append, List.length_append, Nat.toList_repr]
    have : (-i).toNat = i.natAbs := by omega
    have e1 : ("-" : String).toList.length = 1 := by decide
    rw [this, e1]
    omega
theorem ints_shown : ∀ {r : List Int}, (∀ i ∈ r, i.natAbs ≤ 99) → piled (PyData.shownAll (r.map .int)) ≤ 5 * r.length ∧ PyData.showableAll (r.map .int) = true ∧ PyData.depthAll (r.map .int) = 0
  | [], _ => ⟨Nat.le_refl _, rfl, rfl⟩
  | i :: r, h => by
    obtain ⟨h1, h2, h3⟩ := ints_shown (r := r) fun j hj => h j (List.mem_cons_of_mem _ hj)
    obtain ⟨k1, k2⟩ := int3 (h i List.mem_cons_self)
    refine ⟨?_, ?_, ?_⟩
    · simp only [List.map_cons, PyData.shownAll, piled_cons, List.length_cons]
      omega
    · simp only [List.map_cons, PyData.showableAll, k2, h2, Bool.and_self]
    · simp only [List.map_cons, PyData.depthAll, PyData.depth, h3]
      rfl
theorem rows_shown : ∀ {F : List (List Int)}, (∀ r ∈ F, r.length ≤ 12 ∧ ∀ i ∈ r, i.natAbs ≤ 99) → piled (PyData.shownAll (rowsD F)) ≤ 70 * F.length ∧ PyData.showableAll (rowsD F) = true ∧ PyData.depthAll (rowsD F) ≤ 1
  | [], _ => ⟨Nat.le_refl _, rfl, Nat.zero_le _⟩
  | r :: F, h => by
    obtain ⟨h1, h2, h3⟩ := rows_shown (F := F) fun x hx => h x (List.mem_cons_of_mem _ hx)
    obtain ⟨l, k⟩ := h r List.mem_cons_self
    obtain ⟨k1, k2, k3⟩ := ints_shown k
    have k4 := tuple_len (PyData.shownAll (r.map .int))
    unfold rowsD rowD rowP at h1 h2 h3 ⊢
    refine ⟨?_, ?_, ?_⟩
    · simp only [List.map_cons, PyData.shownAll, piled_cons, List.length_cons, PyData.shown]
      omega
    · simp only [List.map_cons, PyData.showableAll, PyData.showable, k2, h2, Bool.and_self]
    · simp only [List.map_cons, PyData.depthAll, PyData.depth, k3]
      omega
theorem pair_shows {n : Nat} {N O : List (List Int)} (hn : n ≤ 3) (rN : RowsG n N) (rO : RowsG n O) (l2 : N.length ≤ 40) (l3 : O.length ≤ 40) : (PyData.tuple [.tuple (rowsD N), .tuple (rowsD O)]).showable = true ∧ (PyData.tuple [.tuple (rowsD N), .tuple (rowsD O)]).depth ≤ 60 ∧ (PyData.tuple [.tuple (rowsD N), .tuple (rowsD O)]).shown.length ≤ sizeLine := by
  have fit : ∀ {R : List (List Int)}, RowsG n R → ∀ r ∈ R, r.length ≤ 12 ∧ ∀ i ∈ r, i.natAbs ≤ 99 := fun {R} h r hr => by
    obtain ⟨e, k⟩ := h r hr
    refine ⟨?_, k⟩
    rcases e with rfl | e
    · decide
    · omega
  obtain ⟨a1, a2, a3⟩ := rows_shown (fit rN)
  obtain ⟨b1, b2, b3⟩ := rows_shown (fit rO)
  have k1 := tuple_len (PyData.shownAll (rowsD N))
  have k2 := tuple_len (PyData.shownAll (rowsD O))
  have k3 := tuple_len [(PyData.tuple (rowsD N)).shown, (PyData.tuple (rowsD O)).shown]
  refine ⟨by simp only [PyData.showable, PyData.showableAll, a2, b2, Bool.and_self], ?_, ?_⟩
  · simp only [PyData.depth, PyData.depthAll]
    omega
  · simp only [piled_cons, PyData.shown] at k3
    simp only [PyData.shown, PyData.shownAll]
    refine line_of ?_
    have : piled [] = 0 := rfl
    omega
section
variable {P : Program} {w : World} {K : PySem.W.Frag} {mg : Str → Option Value} {base : Heap}
def vRight : DSp := fun rs C => ∃ (n : Nat) (N O : List (List Int)), rs = [.v (.tuple (rowsD N)), .v (.tuple (rowsD O))] ∧ ((n ≤ 3 ∧ N.length ≤ 40 ∧ O.length ≤ 40) ∧ RowsG n N ∧ RowsG n O) ∧ C (.v (.bool true))
abbrev s__law_right : Stmt := top 15
theorem sc__law_right : FnScope ["_law_later", "_law_earlier", "_law_kept", "_law_told"] ["_law_later", "_law_earlier"] (defScope s__law_right) := ⟨rfl, rfl, rfl, by decide +kernel, rfl, by decide +kernel, by decide +kernel⟩
theorem ok_v_right {f : Addr} {fd : FuncData} (hsys : SysAt base) (D : Df K mg "_law_right" s__law_right f fd) (T : Tx K mg) (v_are_let : Cal P w K mg base "are_let" ["new", "old"] 3 (spD vLet)) {gV : List V → List V → List V} (k_are_let_old_new_0 : CalN P w K mg base "are_let" ["new", "old"] ["old", "new"] 0 gV 3 (spD vLet)) (h_are_let_old_new_0 : KeyR 0 2 gV (fun us ws => us ++ [ws.getD 1 .non, ws.getD 0 .non]))
    (v__law_is_let : Cal P w K mg base "_law_is_let" ["_law_later", "_law_earlier"] 1 (spD vIsLet)) : Cal P w K mg base "_law_right" ["_law_later", "_law_earlier"] 5 (spD vRight) := by
  refine D.calD sc__law_right (fun rs P h => ?_) (fun _ _ _ _ _ _ us hl => match us, hl with | [_, _], _ => rfl) (fun cdv A outer s H E hgu hr => ⟨_, (dsCons (dsSet (i := 2) sc__law_right.nd rfl (by first | exact Or.inl rfl | exact Or.inr rfl) (dCallB (bRepr hsys hgu hr.units) (by rfl) T.repr (by decide +kernel) (daCons (dTupE (daCons (dName (pv 0)) (daCons (dName (pv 1)) daNil))) daNil))) (dsCons (dsFor PassesOwn.never rfl (diWalk (dTupE (daCons (dCallE v_are_let hgu (hr.mono (by omega)) (by rfl) (daCons (dName (pv 0)) (daCons (dName (pv 1)) daNil))) (daCons (dCallW0E k_are_let_old_new_0 h_are_let_old_new_0 hgu (hr.mono (by omega)) (by rfl) (dkCons (dName (pv 1)) (dkCons (dName (pv 0)) dkNil))) daNil)))) (dgNameE (i := 3) (pg_name (i := 3) sc__law_right.nd rfl (by first | exact Or.inl rfl | exact Or.inr rfl))) (dsOne (dsIf (DW.dt (dwOr (dtNot (dtVal (dIsiE isi_bool (by rfl) T.isinstance (dName (pv 3)) (pe_bltn (v := .ty "bool") (by rfl) T.bool (by decide +kernel) rfl)))) (dwOr (dtCmpL (pNe hr.units) (pv 3) (dCallE v__law_is_let hgu (hr.mono (by omega)) (by rfl) (daCons (dName (pv 0)) (daCons (dName (pv 1)) daNil))) (by rfl)) (dwOr1 (dtCmp (oNe hr.units) (dCallB (bRepr hsys hgu hr.units) (by rfl) T.repr (by decide +kernel) (daCons (dTupE (daCons (dName (pv 0)) (daCons (dName (pv 1)) daNil))) daNil)) (dName (pv 2)) (by rfl)))))) (dsOne (dsRet dBl)) dsNil))) (dsOne (dsRet dBl)))), fun rs P h => ?_⟩)
  · obtain ⟨n, N, O, rfl, _⟩ := h
    rfl
  · obtain ⟨n, N, O, rfl, ⟨⟨l1, l2, l3⟩, rN, rO⟩, h⟩ := h
    have L : (n ≤ 100 ∧ N.length ≤ 100 ∧ O.length ≤ 100) ∧ RowsOk n N ∧ RowsOk n O := ⟨⟨by omega, by omega, by omega⟩, rN.ok, rO.ok⟩
    have bnd : ∀ {R : List (List Int)}, RowsG n R → ∀ r ∈ R, r.length ≤ 100 := fun {R} h r hr => by
      rcases (h r hr).1 with rfl | e
      · decide
      · omega
    have L2 : N.length ≤ 100 ∧ O.length ≤ 100 ∧ (∀ r ∈ N, r.length ≤ 100) ∧ ∀ r ∈ O, r.length ≤ 100 := ⟨by omega, by omega, bnd rN, bnd rO⟩
    obtain ⟨p1, p2, p3⟩ := pair_shows l1 rN rO l2 l3
    walk_at "rv"
    refine ⟨line_of (by decide), p1, p2, p3, ?_⟩
    generalize hr : PyData.str (PyData.tuple [.tuple (rowsD N), .tuple (rowsD O)]).shown = rep
    refine dFor_ex (ds := [.bool (letP N O), .bool (letP N O)]) (e1 := [.v (.tuple (rowsD N)), .v (.tuple (rowsD O)), .v rep, .non]) (fun C h => ?_)
      (fun i e => ∃ r3 : Rv, e = [.v (.tuple (rowsD N)), .v (.tuple (rowsD O)), .v rep, r3]) ⟨_, rfl⟩ ?_ ?_
    · walk_at "rv"
      refine ⟨n, N, O, rfl, L, ?_⟩
      walk_at "rv"
      refine ⟨n, N, O, rfl, L, ?_⟩
      walk_at "rv"
      exact ⟨line_of (by decide), h⟩
    · rintro i y e hy ⟨r3, rfl⟩
      have : y = .bool (letP N O) := by
        match i, hy with
        | 0, hy => exact (Option.some.inj hy).symm
        | 1, hy => exact (Option.some.inj hy).symm
      subst this
      subst hr
      walk_at "rv"
      refine ⟨N, O, rfl, L2, ?_⟩
      walk_at "rv"
      exact iteN (by simp) ⟨line_of (by decide), p1, p2, p3, iteN (by simp) ⟨_, rfl⟩⟩
    · rintro e ⟨r3, rfl⟩
      walk_at "rv"
      exact h
abbrev s_law : Stmt := top 16
theorem sc_law : FnScope ["_law_script", "_law_deck_here", "_law_turn", "_law_near_here", "_law_many", "_law_first", "_law_second", "_law_third", "_law_rows", "_law_one", "_law_other", "_law_last"] ["_law_script"] (defScope s_law) := ⟨rfl, rfl, rfl, by decide +kernel, rfl, by decide +kernel, by decide +kernel⟩
theorem ok_law {f : Addr} {fd : FuncData} (D : Df K mg "law" s_law f fd) (T : Tx K mg) (c__law_deck : Cal P w K mg base "_law_deck" ["_law_script"] 1 (spDeck K)) (v__law_draw : Cal P w K mg base "_law_draw" ["_law_deck_here", "_law_many"] 1 (spD vDraw))
    (v_are_let : Cal P w K mg base "are_let" ["new", "old"] 3 (spD vLet)) (v__law_outcomes_drawn : Cal P w K mg base "_law_outcomes_drawn" ["_law_deck_here", "_law_many"] 4 (spD vOuts)) (v__law_near : Cal P w K mg base "_law_near" ["_law_deck_here", "_law_some"] 4 (spD vNear)) (v__law_right : Cal P w K mg base "_law_right" ["_law_later", "_law_earlier"] 5 (spD vRight)) : FnG P w K mg base CX0 6 f fd ["_law_script"] (spLaw K) := by
  refine D.fnG sc_law (fun vs H Q E h => ?_) (fun cdv A outer s H vs Q E hgu hr h => ?_)
  · obtain ⟨a, ns, rfl, _⟩ := h
    rfl
  · refine ⟨_, pss_cons (ps_set (i := 1) sc_law.nd rfl (by first | exact Or.inl rfl | exact Or.inr rfl) (pe_cal c__law_deck hgu (hr.mono (by omega)) (by rfl) (pa_cons (pv 0) pa_nil))) (dsCons (dsFor PassesOwn.never rfl (diRange1 rfl T.range (daCons dInt daNil)) (dgNameE (i := 2) (pg_name (i := 2) sc_law.nd rfl (by first | exact Or.inl rfl | exact Or.inr rfl))) (dsCons (dsSet (i := 3) sc_law.nd rfl (by first | exact Or.inl rfl | exact Or.inr rfl) (dCmp (oEq hr.units) (dCallE v__law_draw hgu (hr.mono (by omega)) (by rfl) (daCons (dName (pv 1)) (daCons dInt daNil))) dInt (by rfl))) (dsCons (dsSet (i := 4) sc_law.nd rfl (by first | exact Or.inl rfl | exact Or.inr rfl) (dOp oAdd dInt (dCallE v__law_draw hgu (hr.mono (by omega)) (by rfl) (daCons (dName (pv 1)) (daCons dInt daNil))))) (dsCons (dsPar (i := 5) (j := 6) (by rfl) sc_law.nd rfl rfl (by decide) rfl rfl (daCons (dCallE v__law_outcomes_drawn hgu (hr.mono (by omega)) (by rfl) (daCons (dName (pv 1)) (daCons (dName (pv 4)) daNil))) (daCons (dCallE v__law_outcomes_drawn hgu (hr.mono (by omega)) (by rfl) (daCons (dName (pv 1)) (daCons (dName (pv 4)) daNil))) daNil)) (by rfl)) (dsCons (dsSet (i := 7) sc_law.nd rfl (by first | exact Or.inl rfl | exact Or.inr rfl) (dCallE v__law_near hgu (hr.mono (by omega)) (by rfl) (daCons (dName (pv 1)) (daCons (dName (pv 5)) daNil)))) (dsCons (dsIf (dtTruVar (pv 3) (by intro _; rfl)) (dsOne (dsSet (i := 6) sc_law.nd rfl (by first | exact Or.inl rfl | exact Or.inr rfl) (dCallE v__law_near hgu (hr.mono (by omega)) (by rfl) (daCons (dName (pv 1)) (daCons (dName (pv 5)) daNil))))) dsNil) (dsCons (dsSet (i := 8) sc_law.nd rfl (by first | exact Or.inl rfl | exact Or.inr rfl) (dLstE (daCons (dName (pv 5)) (daCons (dName (pv 6)) (daCons (dName (pv 7)) daNil))))) (dsCons (dsFor PassesOwn.never rfl (diWalk (dName (pv 8))) (dgNameE (i := 9) (pg_name (i := 9) sc_law.nd rfl (by first | exact Or.inl rfl | exact Or.inr rfl))) (dsOne (dsFor PassesOwn.never rfl (diWalk (dName (pv 8))) (dgNameE (i := 10) (pg_name (i := 10) sc_law.nd rfl (by first | exact Or.inl rfl | exact Or.inr rfl))) (dsCons (dsIf (dtNot (dtVal (dCallE v__law_right hgu (hr.mono (by omega)) (by rfl) (daCons (dName (pv 9)) (daCons (dName (pv 10)) daNil))))) (dsOne (dsRet dBl)) dsNil) (dsOne (dsFor PassesOwn.never rfl (diWalk (dName (pv 8))) (dgNameE (i := 11) (pg_name (i := 11) sc_law.nd rfl (by first | exact Or.inl rfl | exact Or.inr rfl))) (dsOne (dsIf (DW.dt (dwAnd (dtVal (dCallE v_are_let hgu (hr.mono (by omega)) (by rfl) (daCons (dName (pv 9)) (daCons (dName (pv 10)) daNil)))) (dwAnd (dtVal (dCallE v_are_let hgu (hr.mono (by omega)) (by rfl) (daCons (dName (pv 10)) (daCons (dName (pv 11)) daNil)))) (dwAnd1 (dtNot (dtVal (dCallE v_are_let hgu (hr.mono (by omega)) (by rfl) (daCons (dName (pv 9)) (daCons (dName (pv 11)) daNil))))))))) (dsOne (dsRet dBl)) dsNil)))))))) (dsOne (dsIf (dtCmp (oIsNot) (dCallE v_are_let hgu (hr.mono (by omega)) (by rfl) (daCons (dName (pv 5)) (daCons (dName (pv 5)) daNil))) dBl (by rfl)) (dsOne (dsRet dBl)) dsNil)))))))))) (dsOne (dsRet (dAndE (dCmp (oIs) (dCallE v_are_let hgu (hr.mono (by omega)) (by rfl) (daCons (dTupE (daCons (dTupE (daCons dInt (daCons dInt daNil))) daNil)) (daCons (dTupE (daCons (dTupE (daCons dInt (daCons (dUnary oNeg dInt) daNil))) daNil)) daNil))) dBl (by rfl)) (dOne (dCmp (oIs) (dCallE v_are_let hgu (hr.mono (by omega)) (by rfl) (daCons (dTupE (daCons (dTupE (daCons dInt (daCons (dUnary oNeg dInt) daNil))) daNil)) (daCons (dTupE (daCons (dTupE (daCons dInt (daCons dInt daNil))) daNil)) daNil))) dBl (by rfl))))))), law_run rfl (.inr ⟨E, h⟩) fun m em => ?_⟩
    subst em
    walk_at "rv"
    refine dFor_ex (ds := wholesD 0 8) (e1 := [.non, .deck, .non, .non, .non, .non, .non, .non, .non, .non, .non, .non]) (fun C h => ?_)
      (fun i e => ∃ r2 r3 r4 r5 r6 r7 r8 r9 r10 r11 : Rv, e = [.non, .deck, r2, r3, r4, r5, r6, r7, r8, r9, r10, r11]) ⟨_, _, _, _, _, _, _, _, _, _, rfl⟩ ?_ ?_
    · walk_at "rv"
      exact ⟨by decide, by decide, h⟩
    · rintro i y e hy ⟨r2, r3, r4, r5, r6, r7, r8, r9, r10, r11, rfl⟩
      obtain ⟨-, rfl⟩ := wholesD_at hy
      generalize PyData.int (0 + (i : Int)) = turn
      refine vcutE fun u D1 hu hD1 => ?_
      walk_at "rv"
      refine ⟨2, rfl, by decide, fun a _ _ => ?_⟩
      walk_at "rv"
      generalize decide (a = 1) = near
      subst hu
      refine vcutE fun u D2 hu hD2 => ?_
      walk_at "rv"
      refine ⟨3, rfl, by decide, fun b b0 b1 => ?_⟩
      walk_at "rv"
      obtain ⟨n, hn⟩ := Int.eq_ofNat_of_zero_le (show 0 ≤ 1 + b by omega)
      have hn13 : 1 ≤ n ∧ n ≤ 3 := by omega
      rw [hn]
      subst hu
      refine vcutE fun u D3 hu hD3 => ?_
      walk_at "rv"
      refine ⟨n, rfl, hn13, fun A ⟨gA, lA⟩ => ?_⟩
      walk_at "rv"
      refine ⟨n, rfl, hn13, fun B ⟨gB, lB⟩ => ?_⟩
      walk_at "rv"
      subst hu
      refine vcutE fun u D4 hu hD4 => ?_
      walk_at "rv"
      refine ⟨n, A, rfl, ⟨hn13, gA, lA⟩, fun C ⟨gC, lC⟩ => ?_⟩
      walk_at "rv"
      subst hu
      refine vcutE fun u D5 hu hD5 => ?_
      have s5 : ∀ B : List (List Int), RowsG n B → B.length ≤ 22 → u D5 [.non, .deck, .v turn, .v (.bool near), .v (.int n), .v (.tuple (rowsD A)), .v (.tuple (rowsD B)), .v (.tuple (rowsD C)), r8, r9, r10, r11] := by
        intro B gB lB
        subst hu
        refine vcutE fun u D6 hu hD6 => ?_
        walk_at "rv"
        refine ⟨line_of (by decide), ?_⟩
        subst hu
        refine vcutE fun u D7 hu hD7 => ?_
        have ask : ∀ X Y : List (List Int), (RowsG n X ∧ X.length ≤ 40) → (RowsG n Y ∧ Y.length ≤ 40) → ∀ {Q : Rv → Prop}, Q (.v (.bool (letP X Y))) → vLet [.v (.tuple (rowsD X)), .v (.tuple (rowsD Y))] Q := fun X Y hX hY Q h => ⟨n, X, Y, rfl, ⟨⟨by omega, by omega, by omega⟩, hX.1.ok, hY.1.ok⟩, h⟩
        have three : ∀ (j : Nat) (y : PyData), [PyData.tuple (rowsD A), .tuple (rowsD B), .tuple (rowsD C)][j]? = some y → ∃ X : List (List Int), y = .tuple (rowsD X) ∧ RowsG n X ∧ X.length ≤ 40 := fun j y hy => by
          match j, hy with
          | 0, hy => exact ⟨A, (Option.some.inj hy).symm, gA, by omega⟩
          | 1, hy => exact ⟨B, (Option.some.inj hy).symm, gB, by omega⟩
          | 2, hy => exact ⟨C, (Option.some.inj hy).symm, gC, by omega⟩
        generalize hrows : [PyData.tuple (rowsD A), .tuple (rowsD B), .tuple (rowsD C)] = rows at three
        refine dFor_ex (ds := rows) (e1 := [.non, .deck, .v turn, .v (.bool near), .v (.int n), .v (.tuple (rowsD A)), .v (.tuple (rowsD B)), .v (.tuple (rowsD C)), .v (.list rows), r9, r10, r11]) (fun C h => ?_)
          (fun i e => ∃ r9 r10 r11 : Rv, e = [.non, .deck, .v turn, .v (.bool near), .v (.int n), .v (.tuple (rowsD A)), .v (.tuple (rowsD B)), .v (.tuple (rowsD C)), .v (.list rows), r9, r10, r11]) ⟨_, _, _, rfl⟩ ?_ ?_
        · walk_at "rv"
          exact h
        · rintro j1 y1 e hy1 ⟨r9, r10, r11, rfl⟩
          obtain ⟨X, rfl, gX⟩ := three j1 y1 hy1
          walk_at "rv"
          refine dFor_ex (ds := rows) (e1 := [.non, .deck, .v turn, .v (.bool near), .v (.int n), .v (.tuple (rowsD A)), .v (.tuple (rowsD B)), .v (.tuple (rowsD C)), .v (.list rows), .v (.tuple (rowsD X)), r10, r11]) (fun C h => ?_)
            (fun i e => ∃ r10 r11 : Rv, e = [.non, .deck, .v turn, .v (.bool near), .v (.int n), .v (.tuple (rowsD A)), .v (.tuple (rowsD B)), .v (.tuple (rowsD C)), .v (.list rows), .v (.tuple (rowsD X)), r10, r11]) ⟨_, _, rfl⟩ ?_ ?_
          · walk_at "rv"
            exact h
          · rintro j2 y2 e hy2 ⟨r10, r11, rfl⟩
            obtain ⟨Y, rfl, gY⟩ := three j2 y2 hy2
            walk_at "rv"
            refine ⟨n, X, Y, rfl, ⟨⟨by omega, gX.2, gY.2⟩, gX.1, gY.1⟩, ?_⟩
            walk_at "rv"
            refine dFor_ex (ds := rows) (e1 := [.non, .deck, .v turn, .v (.bool near), .v (.int n), .v (.tuple (rowsD A)), .v (.tuple (rowsD B)), .v (.tuple (rowsD C)), .v (.list rows), .v (.tuple (rowsD X)), .v (.tuple (rowsD Y)), r11]) (fun C h => ?_)
              (fun i e => ∃ r11 : Rv, e = [.non, .deck, .v turn, .v (.bool near), .v (.int n), .v (.tuple (rowsD A)), .v (.tuple (rowsD B)), .v (.tuple (rowsD C)), .v (.list rows), .v (.tuple (rowsD X)), .v (.tuple (rowsD Y)), r11]) ⟨_, rfl⟩ ?_ ?_
            · walk_at "rv"
              exact h
            · rintro j3 y3 e hy3 ⟨r11, rfl⟩
              obtain ⟨Z, rfl, gZ⟩ := three j3 y3 hy3
              walk_at "rv"
              refine ask X Y gX gY ?_
              walk_at "rv"
              by_cases h1 : letP X Y = true
              · refine iteY h1 (ask Y Z gY gZ ?_)
                walk_at "rv"
                by_cases h2 : letP Y Z = true
                · refine iteY h2 (ask X Z gX gZ ?_)
                  rw [let_trans gX.1.ok gY.1.ok gZ.1.ok h1 h2]
                  walk_at "rv"
                  exact ⟨_, rfl⟩
                · exact iteN (by simpa using h2) ⟨_, rfl⟩
              · exact iteN (by simpa using h1) ⟨_, rfl⟩
            · rintro e ⟨r11, rfl⟩
              exact ⟨_, _, rfl⟩
          · rintro e ⟨r10, r11, rfl⟩
            exact ⟨_, _, _, rfl⟩
        · rintro e ⟨r9, r10, r11, rfl⟩
          subst hu hD7 hD6 hD5 hD4 hD3 hD2 hD1
          dsimp only
          walk_at "rv"
          refine ask A A ⟨gA, by omega⟩ ⟨gA, by omega⟩ ?_
          rw [let_self]
          walk_at "rv"
          exact iteN (by simp) ⟨_, rfl⟩
      walk_at "rv"
      cases near with
      | true => exact iteY rfl ⟨n, A, rfl, ⟨hn13, gA, lA⟩, fun B2 ⟨gB2, lB2⟩ => s5 B2 gB2 lB2⟩
      | false => exact iteN rfl (s5 B gB (by omega))
    · rintro e ⟨r2, r3, r4, r5, r6, r7, r8, r9, r10, r11, rfl⟩
      walk_at "rv"
      have one : vLet [.v (.tuple [.tuple [.int 0, .int 1]]), .v (.tuple [.tuple [.int 0, .int (-2)]])] = vLet [.v (.tuple (rowsD [[0, 1]])), .v (.tuple (rowsD [[0, -2]]))] := rfl
      have two : vLet [.v (.tuple [.tuple [.int 0, .int (-2)]]), .v (.tuple [.tuple [.int 0, .int 1]])] = vLet [.v (.tuple (rowsD [[0, -2]])), .v (.tuple (rowsD [[0, 1]]))] := rfl
      have r1 : RowsOk 2 [[0, 1]] := by intro r hr; rw [List.mem_singleton.mp hr]; exact .inr rfl
      have r2 : RowsOk 2 [[0, -2]] := by intro r hr; rw [List.mem_singleton.mp hr]; exact .inr rfl
      rw [one, two]
      refine ⟨line_of (by decide), line_of (by decide), line_of (by decide), line_of (by decide), 2, [[0, 1]], [[0, -2]], rfl, ⟨by decide, r1, r2⟩, ?_⟩
      rw [show letP [[0, 1]] [[0, -2]] = true by decide +kernel]
      walk_at "rv"
      refine iteY (by simp) ⟨line_of (by decide), line_of (by decide), line_of (by decide), line_of (by decide), 2, [[0, -2]], [[0, 1]], rfl, ⟨by decide, r2, r1⟩, ?_⟩
      rw [show letP [[0, -2]] [[0, 1]] = false by decide +kernel]
      walk_at "rv"
      simp
end
end Vf
namespace Vf
open PySem L2 PyProof.Rows PySem.Spec
/-- a def as the top has left it -/
def DefAt (K : PySem.W.Frag) (x : Str) (st : Stmt) : Prop := ∃ (f : Addr) (oc : Value) (od : Option Addr) (kV doc pm : Value) (an : Option Addr) (cdv ct : Value) (osl : Array (Option Value)),
  PySem.W.nsIn K mainGlobals x = some (some (.ref f)) ∧ K.lookup f = some ⟨oc, od, .func (PySem.W.fnOf x x (defArgs st) (defBody st) (defScope st) .none kV doc pm an cdv ct), osl⟩ ∧ PySem.W.codeIn K cdv x = true ∧ PySem.W.keepIn K (.ref f) = true
theorem DefAt.mk {K : PySem.W.Frag} {x : Str} {st : Stmt} {f : Addr} {oc : Value} {od : Option Addr} {kV doc pm : Value} {an : Option Addr} {cdv ct : Value} {osl : Array (Option Value)}
    (a : PySem.W.nsIn K mainGlobals x = some (some (.ref f))) (l : K.lookup f = some ⟨oc, od, .func (PySem.W.fnOf x x (defArgs st) (defBody st) (defScope st) .none kV doc pm an cdv ct), osl⟩) (c : PySem.W.codeIn K cdv x = true) (k : PySem.W.keepIn K (.ref f) = true) : DefAt K x st :=
  ⟨f, oc, od, kV, doc, pm, an, cdv, ct, osl, a, l, c, k⟩
theorem DefAt.df {K : PySem.W.Frag} {x : Str} {st : Stmt} {h : Heap} {mg : Str → Option Value} (X : K.In h) (G : h.Ns mainGlobals mg) (A : DefAt K x st) : ∃ f kV doc pm an cdv ct, Df K mg x st f (PySem.W.fnOf x x (defArgs st) (defBody st) (defScope st) .none kV doc pm an cdv ct) := by
  obtain ⟨f, oc, od, kV, doc, pm, an, cdv, ct, osl, a, l, c, k⟩ := A
  exact ⟨f, kV, doc, pm, an, cdv, ct, fun_mk l c k, PySem.W.mg_of X G a⟩
/-- a def with defaults, as the top has left it -/
def DefAtD (K : PySem.W.Frag) (x : Str) (st : Stmt) (dvs : List V) : Prop := ∃ (f : Addr) (oc : Value) (od : Option Addr) (dT : Addr) (kV doc pm : Value) (an : Option Addr) (cdv ct : Value) (osl : Array (Option Value)) (o : Obj) (its : List Value) (n : Nat),
  PySem.W.nsIn K mainGlobals x = some (some (.ref f)) ∧ K.lookup f = some ⟨oc, od, .func (PySem.W.fnOf x x (defArgs st) (defBody st) (defScope st) (.ref dT) kV doc pm an cdv ct), osl⟩ ∧ PySem.W.codeIn K cdv x = true ∧ PySem.W.keepIn K (.ref f) = true ∧
  K.lookup dT = some o ∧ o.data = .seq its.toArray n ∧ Vals dvs its
theorem DefAtD.mk {K : PySem.W.Frag} {x : Str} {st : Stmt} {dvs : List V} {f : Addr} {oc : Value} {od : Option Addr} {dT : Addr} {kV doc pm : Value} {an : Option Addr} {cdv ct : Value} {osl : Array (Option Value)} {tc : Value} {td : Option Addr} {its : Array Value} {n : Nat} {tl : Array (Option Value)}
    (a : PySem.W.nsIn K mainGlobals x = some (some (.ref f))) (l : K.lookup f = some ⟨oc, od, .func (PySem.W.fnOf x x (defArgs st) (defBody st) (defScope st) (.ref dT) kV doc pm an cdv ct), osl⟩) (c : PySem.W.codeIn K cdv x = true) (k : PySem.W.keepIn K (.ref f) = true)
    (t : K.lookup dT = some ⟨tc, td, .seq its n, tl⟩) (v : Vals dvs its.toList) : DefAtD K x st dvs :=
  ⟨f, oc, od, dT, kV, doc, pm, an, cdv, ct, osl, _, its.toList, n, a, l, c, k, t, rfl, v⟩
theorem DefAtD.df {K : PySem.W.Frag} {x : Str} {st : Stmt} {dvs : List V} {h : Heap} {mg : Str → Option Value} (hd : dvs ≠ []) (X : K.In h) (G : h.Ns mainGlobals mg) (A : DefAtD K x st dvs) : ∃ f fd, DfD K mg x st dvs f fd := by
  obtain ⟨f, oc, od, dT, kV, doc, pm, an, cdv, ct, osl, o, its, n, a, l, c, k, t, e, v⟩ := A
  exact ⟨f, _, ⟨⟨⟨oc, od, .ref dT, kV, doc, pm, an, cdv, ct, osl, rfl, l, c, .inr ⟨hd, dT, o, its, n, rfl, t, e, v⟩, .inl rfl⟩, k⟩, PySem.W.mg_of X G a⟩⟩
/-- a tuple of texts as the top has left it -/
def TupAt (K : PySem.W.Frag) (x : Str) (l : List Str) : Prop := ∃ (a : Addr) (o : Obj) (its : Array Value) (n : Nat), PySem.W.nsIn K mainGlobals x = some (some (.ref a)) ∧ K.lookup a = some o ∧ o.cls = .type "tuple" ∧ o.data = .seq its n ∧ its.size ≤ 1000 ∧ Vals (l.map V.str) its.toList
/-- a text as the top has left it -/
def TextAt (K : PySem.W.Frag) (x z : Str) : Prop := ∃ z' t, PySem.W.nsIn K mainGlobals x = some (some (.str z' t)) ∧ z' = z
theorem TextAt.mk {K : PySem.W.Frag} {x z z' : Str} {t : Tok} (h : PySem.W.nsIn K mainGlobals x = some (some (.str z' t))) (e : z' = z) : TextAt K x z := ⟨z', t, h, e⟩
theorem TupAt.mk {K : PySem.W.Frag} {x : Str} {l : List Str} {a : Addr} {od : Option Addr} {its : Array Value} {n : Nat} {sl : Array (Option Value)} (h1 : PySem.W.nsIn K mainGlobals x = some (some (.ref a))) (h2 : K.lookup a = some ⟨.type "tuple", od, .seq its n, sl⟩)
    (h3 : its.size ≤ 1000) (h4 : Vals (l.map V.str) its.toList) : TupAt K x l := ⟨a, ⟨.type "tuple", od, .seq its n, sl⟩, its, n, h1, h2, rfl, rfl, h3, h4⟩
/-- a dict of texts and numbers as the top has left it -/
def EntsAre : List DictEntry → List (Str × Int) → Prop
  | [], [] => True
  | e :: es, (x, i) :: l => ((∃ t, e.key = .str x t) ∧ ∃ t, e.val = .int i t) ∧ EntsAre es l
  | _, _ => False
theorem ents_none : ∀ {es : List DictEntry} {l : List (Str × Int)}, EntsAre es l → es.any (·.refKey) = false
  | [], [], _ => rfl
  | e :: es, (x, i) :: l, h => by
    obtain ⟨⟨⟨t, ek⟩, _⟩, h⟩ := h
    rw [List.any_cons, ents_none h, Bool.or_false]
    unfold DictEntry.refKey
    rw [ek]
theorem ents_find : ∀ {es : List DictEntry} {l : List (Str × Int)}, EntsAre es l → ∀ z : Str, RelO (((l.find? fun p => p.1 == z).map (·.2)).map V.int) ((es.find? (·.key.isStr z)).map (·.val))
  | [], [], _, z => trivial
  | e :: es, (x, i) :: l, h, z => by
    obtain ⟨⟨⟨t, ek⟩, ⟨t', ev⟩⟩, h⟩ := h
    have hb : e.key.isStr z = (x == z) := by
      rw [ek]
      rfl
    rw [List.find?_cons, List.find?_cons, hb]
    cases hx : x == z with
    | true => exact ⟨t', ev⟩
    | false => exact ents_find h z
def CntAt (K : PySem.W.Frag) (w : World) (x : Str) (l : List (Str × Int)) : Prop := ∃ (d : Addr) (es : Array DictEntry) (n : Nat), PySem.W.nsIn K mainGlobals x = some (some (.ref d)) ∧ KDict K w d es n ∧ EntsAre es.toList l
theorem CntAt.mk {K : PySem.W.Frag} {w : World} {x : Str} {l : List (Str × Int)} {d : Addr} {es : Array DictEntry} {n : Nat} (h1 : PySem.W.nsIn K mainGlobals x = some (some (.ref d))) (h2 : K.lookup d = some ⟨.type "dict", none, .dict es n, #[]⟩)
    (h3 : PySem.W.KeysLit w.params es.toList) (h4 : (d == sysModules) = false) (h5 : EntsAre es.toList l) : CntAt K w x l := ⟨d, es, n, h1, ⟨h2, h3, h4⟩, h5⟩
theorem CntAt.cnt {K : PySem.W.Frag} {w : World} {x : Str} {l : List (Str × Int)} (h : CntAt K w x l) : ∃ d, PySem.W.nsIn K mainGlobals x = some (some (.ref d)) ∧ Cnt K w d fun z => (l.find? fun p => p.1 == z).map (·.2) := by
  obtain ⟨d, es, n, h1, h2, h3⟩ := h
  refine ⟨d, h1, ⟨es, n, h2⟩, fun z => ⟨(es.toList.find? (·.key.isStr z)).map (·.val), ?_, ents_find h3 z⟩⟩
  unfold PySem.W.nsIn
  rw [h2.at_]
  show (match es.toList.find? (·.key.isStr z) with | some e => some (some e.val) | none => if es.toList.any (·.refKey) = true then none else some none) = _
  cases es.toList.find? (·.key.isStr z) with
  | some e => rfl
  | none =>
    show (if es.toList.any (·.refKey) = true then none else some none) = _
    rw [ents_none h3]
    rfl
/-- a def with one keyword-only value, a whole number, as the top has left it -/
def DefAtK (K : PySem.W.Frag) (x : Str) (st : Stmt) (y : Str) (i : Int) : Prop := ∃ (f : Addr) (oc : Value) (od : Option Addr) (kD : Addr) (doc pm : Value) (an : Option Addr) (cdv ct : Value) (osl : Array (Option Value)) (t : Tok),
  PySem.W.nsIn K mainGlobals x = some (some (.ref f)) ∧ K.lookup f = some ⟨oc, od, .func (PySem.W.fnOf x x (defArgs st) (defBody st) (defScope st) .none (.ref kD) doc pm an cdv ct), osl⟩ ∧ PySem.W.codeIn K cdv x = true ∧ PySem.W.keepIn K (.ref f) = true ∧
  PySem.W.nsIn K kD y = some (some (.int i t))
theorem DefAtK.mk {K : PySem.W.Frag} {x : Str} {st : Stmt} {y : Str} {i : Int} {f : Addr} {oc : Value} {od : Option Addr} {kD : Addr} {doc pm : Value} {an : Option Addr} {cdv ct : Value} {osl : Array (Option Value)} {t : Tok}
    (a : PySem.W.nsIn K mainGlobals x = some (some (.ref f))) (l : K.lookup f = some ⟨oc, od, .func (PySem.W.fnOf x x (defArgs st) (defBody st) (defScope st) .none (.ref kD) doc pm an cdv ct), osl⟩) (c : PySem.W.codeIn K cdv x = true) (k : PySem.W.keepIn K (.ref f) = true)
    (v : PySem.W.nsIn K kD y = some (some (.int i t))) : DefAtK K x st y i :=
  ⟨f, oc, od, kD, doc, pm, an, cdv, ct, osl, t, a, l, c, k, v⟩
theorem DefAtK.df {K : PySem.W.Frag} {x : Str} {st : Stmt} {y : Str} {i : Int} {h : Heap} {mg : Str → Option Value} (X : K.In h) (G : h.Ns mainGlobals mg) (A : DefAtK K x st y i) : ∃ f kD doc pm an cdv ct, FunD K x x (defArgs st) (defBody st) (defScope st) [] [(y, .int i)] f (PySem.W.fnOf x x (defArgs st) (defBody st) (defScope st) .none (.ref kD) doc pm an cdv ct) ∧ mg x = some (.ref f) := by
  obtain ⟨f, oc, od, kD, doc, pm, an, cdv, ct, osl, t, a, l, c, k, v⟩ := A
  refine ⟨f, kD, doc, pm, an, cdv, ct, ⟨⟨oc, od, .none, .ref kD, doc, pm, an, cdv, ct, osl, rfl, l, c, .inl ⟨rfl, rfl⟩, .inr ⟨kD, rfl, fun q hq => ?_⟩⟩, k⟩, PySem.W.mg_of X G a⟩
  rw [List.mem_singleton.mp hq]
  exact ⟨_, v, t, rfl⟩
theorem Cal.up {P : Program} {w : World} {K : PySem.W.Frag} {mg : Str → Option Value} {base : Heap} {x : Str} {ps : List Str} {k k' : Nat} {sp : Sp} (c : Cal P w K mg base x ps k sp) (h : k ≤ k') : Cal P w K mg base x ps k' sp := by
  obtain ⟨f, fd, F, a, b, d⟩ := c.ex
  exact ⟨f, fd, ⟨F.many, fun A outer s H args us vs Q E hg hr => F.go A outer s H args us vs Q E hg (hr.mono h)⟩, a, b, d⟩
/-- a whole number as the top has left it -/
def IntAt (K : PySem.W.Frag) (x : Str) (i : Int) : Prop := ∃ t, PySem.W.nsIn K mainGlobals x = some (some (.int i t))
theorem IntAt.mk {K : PySem.W.Frag} {x : Str} {i : Int} {t : Tok} (h : PySem.W.nsIn K mainGlobals x = some (some (.int i t))) : IntAt K x i := ⟨t, h⟩
section
variable {P : Program} {w : World} {K : PySem.W.Frag} {mg : Str → Option Value} {base : Heap} {x : Str} {st : Stmt} {f : Addr} {fd : FuncData} {k : Nat} {sp : Sp} {p : Str}
/-- a def of one value, called by its place, by its name -/
theorem Df.cal1 (D : Df K mg x st f fd) (F : FnG P w K mg base CX0 k f fd [p] sp) (b : Binds K fd [p] []) : Cal P w K mg base x [p] k sp := ⟨f, fd, F, D.gl, D.fn.kp, b⟩
end
end Vf
namespace Vf
open PySem L2 PyProof.Rows PySem.Spec
structure Facts (w : World) (K : PySem.W.Frag) : Prop where
  d_are_let : DefAt K "are_let" s_are_let
  d_is_covered : DefAt K "is_covered" s_is_covered
  d_bad_places : DefAt K "bad_places" s_bad_places
  d_spoilt : DefAt K "spoilt" s_spoilt
  d__law_deck : DefAt K "_law_deck" s__law_deck
  d__law_draw : DefAt K "_law_draw" s__law_draw
  d__law_pick : DefAt K "_law_pick" s__law_pick
  d__law_row : DefAt K "_law_row" s__law_row
  d__law_outcomes_drawn : DefAt K "_law_outcomes_drawn" s__law_outcomes_drawn
  d__law_near : DefAt K "_law_near" s__law_near
  d__law_is_let : DefAt K "_law_is_let" s__law_is_let
  d__law_right : DefAt K "_law_right" s__law_right
  d_law : DefAt K "law" s_law
  t_BAD : IntAt K "BAD" (-2)
  t_FAULT : IntAt K "FAULT" (-3)
  z_isinstance : PySem.W.nsIn K mainGlobals "isinstance" = some none
  z_str : PySem.W.nsIn K mainGlobals "str" = some none
  z_int : PySem.W.nsIn K mainGlobals "int" = some none
  z_bool : PySem.W.nsIn K mainGlobals "bool" = some none
  z_tuple : PySem.W.nsIn K mainGlobals "tuple" = some none
  z_len : PySem.W.nsIn K mainGlobals "len" = some none
  z_all : PySem.W.nsIn K mainGlobals "all" = some none
  z_any : PySem.W.nsIn K mainGlobals "any" = some none
  z_sum : PySem.W.nsIn K mainGlobals "sum" = some none
  z_list : PySem.W.nsIn K mainGlobals "list" = some none
  z_range : PySem.W.nsIn K mainGlobals "range" = some none
  z_repr : PySem.W.nsIn K mainGlobals "repr" = some none
  z_set : PySem.W.nsIn K mainGlobals "set" = some none
  z_sorted : PySem.W.nsIn K mainGlobals "sorted" = some none
  z_dict : PySem.W.nsIn K mainGlobals "dict" = some none
  z_max : PySem.W.nsIn K mainGlobals "max" = some none
  z_min : PySem.W.nsIn K mainGlobals "min" = some none
  z_zip : PySem.W.nsIn K mainGlobals "zip" = some none
  z_enumerate : PySem.W.nsIn K mainGlobals "enumerate" = some none
  z_reversed : PySem.W.nsIn K mainGlobals "reversed" = some none
theorem all_mk {l : PySem.W.OpenLaw} {w : World} {K : PySem.W.Frag} {h : Heap} {mg : Str → Option Value} {fa : Addr} (X : K.In h) (G : h.Ns mainGlobals mg) (hfa : mg "law" = some (.ref fa)) (F : Facts w K) :
    ∃ fd : FuncData, (∀ (s : Shared) (v : Value), BindsTo s fd ⟨[v], []⟩ [("_law_script", v)]) ∧ ∀ base : Heap, K.In base → base.Ns mainGlobals mg → SysAt base → FnG l.prog w K mg base CX0 6 fa fd ["_law_script"] (spLaw K) := by
  have T : Tx K mg := ⟨PySem.W.mg_none_of X G F.z_isinstance, PySem.W.mg_none_of X G F.z_str, PySem.W.mg_none_of X G F.z_int, PySem.W.mg_none_of X G F.z_bool, PySem.W.mg_none_of X G F.z_tuple, PySem.W.mg_none_of X G F.z_len, PySem.W.mg_none_of X G F.z_all, PySem.W.mg_none_of X G F.z_any, PySem.W.mg_none_of X G F.z_sum, PySem.W.mg_none_of X G F.z_list, PySem.W.mg_none_of X G F.z_range, PySem.W.mg_none_of X G F.z_repr, PySem.W.mg_none_of X G F.z_set, PySem.W.mg_none_of X G F.z_sorted, PySem.W.mg_none_of X G F.z_dict, PySem.W.mg_none_of X G F.z_max, PySem.W.mg_none_of X G F.z_min, PySem.W.mg_none_of X G F.z_zip, PySem.W.mg_none_of X G F.z_enumerate, PySem.W.mg_none_of X G F.z_reversed⟩
  obtain ⟨f_are_let, _, _, _, _, _, _, D_are_let⟩ := F.d_are_let.df X G
  obtain ⟨f_is_covered, _, _, _, _, _, _, D_is_covered⟩ := F.d_is_covered.df X G
  obtain ⟨f_bad_places, _, _, _, _, _, _, D_bad_places⟩ := F.d_bad_places.df X G
  obtain ⟨f_spoilt, _, _, _, _, _, _, D_spoilt⟩ := F.d_spoilt.df X G
  obtain ⟨f__law_deck, _, _, _, _, _, _, D__law_deck⟩ := F.d__law_deck.df X G
  obtain ⟨f__law_draw, _, _, _, _, _, _, D__law_draw⟩ := F.d__law_draw.df X G
  obtain ⟨f__law_pick, _, _, _, _, _, _, D__law_pick⟩ := F.d__law_pick.df X G
  obtain ⟨f__law_row, _, _, _, _, _, _, D__law_row⟩ := F.d__law_row.df X G
  obtain ⟨f__law_outcomes_drawn, _, _, _, _, _, _, D__law_outcomes_drawn⟩ := F.d__law_outcomes_drawn.df X G
  obtain ⟨f__law_near, _, _, _, _, _, _, D__law_near⟩ := F.d__law_near.df X G
  obtain ⟨f__law_is_let, _, _, _, _, _, _, D__law_is_let⟩ := F.d__law_is_let.df X G
  obtain ⟨f__law_right, _, _, _, _, _, _, D__law_right⟩ := F.d__law_right.df X G
  obtain ⟨f_law, kV9, doc9, pm9, an9, cd9, ct9, D_law⟩ := F.d_law.df X G
  obtain ⟨tkBAD, l1BAD⟩ := F.t_BAD
  have mBAD := PySem.W.mg_of X G l1BAD
  obtain ⟨tkFAULT, l1FAULT⟩ := F.t_FAULT
  have mFAULT := PySem.W.mg_of X G l1FAULT
  obtain rfl : f_law = fa := by
    have e := hfa.symm.trans D_law.gl
    cases e
    rfl
  refine ⟨PySem.W.fnOf "law" "law" (defArgs s_law) (defBody s_law) (defScope s_law) .none kV9 doc9 pm9 an9 cd9 ct9, fun s v => .of_eq rfl, fun base _ _ hsys => ?_⟩
  have draw := ok__law_draw (P := l.prog) (w := w) (base := base) D__law_draw T
  have vdraw := v__law_draw draw
  have pick := ok_v_pick D__law_pick T vdraw
  have vs := ok_v_spoilt (P := l.prog) (w := w) (base := base) D_spoilt T mBAD
  have vc := ok_v_covered D_is_covered T vs
  have vb := ok_v_bad (P := l.prog) (w := w) (base := base) D_bad_places T mBAD
  have vlF := fn_v_let D_are_let T mFAULT vc vb
  have vl := ok_v_let D_are_let vlF
  have row := ok_v_row D__law_row T pick
  have outs := ok_v_outs D__law_outcomes_drawn T vdraw row
  have near := ok_v_near D__law_near T vdraw
  have isl := ok_v_islet (P := l.prog) (w := w) (base := base) D__law_is_let T
  have kl : CalN l.prog w K mg base "are_let" ["new", "old"] ["old", "new"] 0 (fun us ws => us ++ [ws.getD 1 .non, ws.getD 0 .non]) 3 (spD vLet) := by
    refine ⟨f_are_let, _, fun us ws => us ++ [ws.getD 1 .none, ws.getD 0 .none], vlF, D_are_let.gl, D_are_let.fn.kp, fun s us ws _ h1 h2 => ?_, fun r1 r2 => ?_⟩
    · match us, ws, h1, h2 with
      | [], [_, _], _, _ => exact .of_eq rfl
    · exact r1.append (.cons (vals_getD r2 1) (.cons (vals_getD r2 0) .nil))
  have right := ok_v_right hsys D__law_right T vl kl (fun F H G vs zs rs ss _ h2 o1 o2 => o1.append (o2.nth 1 _ _ (by omega) (o2.nth 0 _ _ (by omega) trivial))) isl
  exact ok_law D_law T (ok__law_deck D__law_deck T) vdraw vl outs near right
end Vf
open PySem PySem.W PyProof.Rows
set_option maxHeartbeats 0 in
theorem PySem.Challenge.cw_poisonrules_k52_outcomes_let_holds : PySem.Challenge.rw_poisonrules_k52_outcomes_let.Holds := by
  w_on; o_law; k_head; (case hw => w_witness2)
  k_fill
  refine Vf.walk_ofS (l := PySem.Challenge.rw_poisonrules_k52_outcomes_let) (k := 6) (x := "_law_script") (by first | rfl | decide +kernel) rfl rfl ⟨rfl, by decide, by decide⟩ (fun w h Y => PySem.W.kIn_of Y) ?F
  case F =>
    intro w mg fa h KX G hmg
    refine Vf.all_mk (w := w) KX G hmg ⟨?d_are_let, ?d_is_covered, ?d_bad_places, ?d_spoilt, ?d__law_deck, ?d__law_draw, ?d__law_pick, ?d__law_row, ?d__law_outcomes_drawn, ?d__law_near, ?d__law_is_let, ?d__law_right, ?d_law, ?t_BAD, ?t_FAULT, ?z_isinstance, ?z_str, ?z_int, ?z_bool, ?z_tuple, ?z_len, ?z_all, ?z_any, ?z_sum, ?z_list, ?z_range, ?z_repr, ?z_set, ?z_sorted, ?z_dict, ?z_max, ?z_min, ?z_zip, ?z_enumerate, ?z_reversed⟩
    case d_are_let =>
      refine' Vf.DefAt.mk ?a_d_are_let ?l_d_are_let ?c_d_are_let ?k_d_are_let
      (case a_d_are_let => k_is); (case l_d_are_let => k_is); (case c_d_are_let => k_is); (case k_d_are_let => k_is)
    case d_is_covered =>
      refine' Vf.DefAt.mk ?a_d_is_covered ?l_d_is_covered ?c_d_is_covered ?k_d_is_covered
      (case a_d_is_covered => k_is); (case l_d_is_covered => k_is); (case c_d_is_covered => k_is); (case k_d_is_covered => k_is)
    case d_bad_places =>
      refine' Vf.DefAt.mk ?a_d_bad_places ?l_d_bad_places ?c_d_bad_places ?k_d_bad_places
      (case a_d_bad_places => k_is); (case l_d_bad_places => k_is); (case c_d_bad_places => k_is); (case k_d_bad_places => k_is)
    case d_spoilt =>
      refine' Vf.DefAt.mk ?a_d_spoilt ?l_d_spoilt ?c_d_spoilt ?k_d_spoilt
      (case a_d_spoilt => k_is); (case l_d_spoilt => k_is); (case c_d_spoilt => k_is); (case k_d_spoilt => k_is)
    case d__law_deck =>
      refine' Vf.DefAt.mk ?a_d__law_deck ?l_d__law_deck ?c_d__law_deck ?k_d__law_deck
      (case a_d__law_deck => k_is); (case l_d__law_deck => k_is); (case c_d__law_deck => k_is); (case k_d__law_deck => k_is)
    case d__law_draw =>
      refine' Vf.DefAt.mk ?a_d__law_draw ?l_d__law_draw ?c_d__law_draw ?k_d__law_draw
      (case a_d__law_draw => k_is); (case l_d__law_draw => k_is); (case c_d__law_draw => k_is); (case k_d__law_draw => k_is)
    case d__law_pick =>
      refine' Vf.DefAt.mk ?a_d__law_pick ?l_d__law_pick ?c_d__law_pick ?k_d__law_pick
      (case a_d__law_pick => k_is); (case l_d__law_pick => k_is); (case c_d__law_pick => k_is); (case k_d__law_pick => k_is)
    case d__law_row =>
      refine' Vf.DefAt.mk ?a_d__law_row ?l_d__law_row ?c_d__law_row ?k_d__law_row
      (case a_d__law_row => k_is); (case l_d__law_row => k_is); (case c_d__law_row => k_is); (case k_d__law_row => k_is)
    case d__law_outcomes_drawn =>
      refine' Vf.DefAt.mk ?a_d__law_outcomes_drawn ?l_d__law_outcomes_drawn ?c_d__law_outcomes_drawn ?k_d__law_outcomes_drawn
      (case a_d__law_outcomes_drawn => k_is); (case l_d__law_outcomes_drawn => k_is); (case c_d__law_outcomes_drawn => k_is); (case k_d__law_outcomes_drawn => k_is)
    case d__law_near =>
      refine' Vf.DefAt.mk ?a_d__law_near ?l_d__law_near ?c_d__law_near ?k_d__law_near
      (case a_d__law_near => k_is); (case l_d__law_near => k_is); (case c_d__law_near => k_is); (case k_d__law_near => k_is)
    case d__law_is_let =>
      refine' Vf.DefAt.mk ?a_d__law_is_let ?l_d__law_is_let ?c_d__law_is_let ?k_d__law_is_let
      (case a_d__law_is_let => k_is); (case l_d__law_is_let => k_is); (case c_d__law_is_let => k_is); (case k_d__law_is_let => k_is)
    case d__law_right =>
      refine' Vf.DefAt.mk ?a_d__law_right ?l_d__law_right ?c_d__law_right ?k_d__law_right
      (case a_d__law_right => k_is); (case l_d__law_right => k_is); (case c_d__law_right => k_is); (case k_d__law_right => k_is)
    case d_law =>
      refine' Vf.DefAt.mk ?a_d_law ?l_d_law ?c_d_law ?k_d_law
      (case a_d_law => k_is); (case l_d_law => k_is); (case c_d_law => k_is); (case k_d_law => k_is)
    case t_BAD =>
      refine' Vf.IntAt.mk ?a_t_BAD
      (case a_t_BAD => k_is)
    case t_FAULT =>
      refine' Vf.IntAt.mk ?a_t_FAULT
      (case a_t_FAULT => k_is)
    case z_isinstance => k_is
    case z_str => k_is
    case z_int => k_is
    case z_bool => k_is
    case z_tuple => k_is
    case z_len => k_is
    case z_all => k_is
    case z_any => k_is
    case z_sum => k_is
    case z_list => k_is
    case z_range => k_is
    case z_repr => k_is
    case z_set => k_is
    case z_sorted => k_is
    case z_dict => k_is
    case z_max => k_is
    case z_min => k_is
    case z_zip => k_is
    case z_enumerate => k_is
    case z_reversed => k_is
#print axioms PySem.Challenge.cw_poisonrules_k52_outcomes_let_holds
