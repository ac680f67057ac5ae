import PyProof.Rows.All
import Wide.All
import OpenK.AllK
import Wide.FinOn
import HandS.ForMost
import HandS.IsInst
import HandS.Conv
import HandS.SetFor
import HandS.SortInts
import HandS.TupAny
import HandS.Wide
import HandS.Style
import HandS.RaiseMore
import HandS.ExcValue
import KE.SortKeyHeap
import HandS.Lambda
import HandS.EndTab
import HandS.TupMul
import HandS.Flow
import HandS.Strs
import PyProof.ReprLen
import HandS.TryOnly
import HandS.Zip
import KE.GoesMore
import KE.DataMinMax
import HandS.SortKw
import HandS.Deep
import HandS.More
import HandS.DeepEq
import PyProof.SumAny
import PyProof.ListOps
import KE.KDictZip
import PyProof.CollectIter
import HandS.ExcInit
import HandS.ExcField
import HandS.ExcIs
import HandS.Small
import HandS.WordsExc
import KE.KExcIs
import KE.GoesEnumKw
import KE.DataMinKey
import PyProof.WalkInts
import HandS.SortRule
import KE.DatumOrd
import KE.SortData
import PyProof.Rows.SetFrom
import PySem.Challenge.RW_samelayout_k68_whole_looking_up
set_option Elab.async false
set_option linter.all false
set_option maxRecDepth 100000
namespace SL
open PySem PySem.Spec PyProof.Rows L2
structure FnG (P : Program) (w : World) (K : PySem.W.Frag) (mg : Str → Option Value) (base : Heap) (k : Nat) (f : Addr)
    (fd : FuncData) (ps : List Str) (sp : Sp) : Prop where
  size : ∀ vs H Q E, sp vs H Q E → vs.length = ps.length
  go : ∀ (A : Around) (outer : List Env) (s : Shared) (H : Hp) (args : Args) (us : List Value) (vs : List V) (Q : VK) (E : XK),
    A.guards = some [] → Room k A → Env0 P w K mg base A outer s H → BindsTo s fd args (ps.zip us) → Vals vs us →
    sp vs H Q E → codeAny (model P w) A (.call (.ref f) args) (CR CX0 outer P w H s Q E) s

section
variable {P : Program} {w : World} {K : PySem.W.Frag} {mg : Str → Option Value} {base : Heap}
theorem fnG_mk {x qual : Str} {st : Stmt} {f : Addr} {fd : FuncData} {N ps : List Str} {k : Nat} {sp : Sp}
    (F : Fun K x qual st f fd) (sc : FnScope N ps (defScope st)) (size : ∀ vs H Q E, sp vs H Q E → vs.length = ps.length)
    (body : ∀ (cdv : Value) (A : Around) (outer : List Env) (s : Shared) (H : Hp) (vs : List V) (Q : VK) (E : XK),
      A.guards = some [] → Room k (A.deeper (envOfC qual (defScope st) s.heap.objs.size f cdv)) → sp vs H Q E →
      ∃ t, PSs (cxOf CX0 P w K mg base N qual (defScope st) f cdv A outer s H E).nox (defBody st) t ∧
        t { nx := fun _ H' => Q .non H', rt := Q } (start N vs) H) : FnG P w K mg base (k + 1) f fd ps sp := by
  obtain ⟨oc, od, kV, doc, pm, an, cdv, ct, osl, rfl, look, code⟩ := F.ex
  constructor
  · exact size
  · intro A outer s H args us vs Q E hgd room env bound rel prom
    have many := size _ _ _ _ prom
    have inK : K.In s.heap := env.mod.kin.keeps fun b o q => (env.bs b o q).1
    have free : s.heap.NoLimit := env.mod.nolimit.keeps fun b o q => (env.bs b o q).1
    refine codeAny_call_function room.depth (inK _ _ look) rfl sc.co sc.gen rfl (PySem.W.codeRec_of inK code)
      (bound _ _ _ _ ?_)
    refine wpAny_newFunctionEnv_cells sc.kind ?kinds fun env' same s1 fresh => ?_
    case kinds =>
      rintro ⟨n, v⟩ here
      rcases sc.par n (List.of_mem_zip here).1 with q | q
      · exact Or.inl q
      · exact Or.inr ⟨q, PySem.W.cellsFrom_some _ _ _ (Or.inl q)⟩
    subst same
    refine ⟨free.keeps fresh.toInCall.keep, codeAny_func ?_⟩
    obtain ⟨t, der, reading⟩ := body cdv A outer s H vs Q E hgd (room.deeper _) prom
    have I := inv_start (CX := CX0) (E := E) sc room.hd env many rel fresh
    refine wpAny_mono (der.nox.run [] s1 (start N vs) H _ I reading) (fun fl s' e => ?_) fun _ _ e => e
    cases fl with
    | ret u => obtain ⟨v, σ', H', J, r', q⟩ := e; exact ⟨v, H', J.os, J.bare, J.base, J.hok, r', q⟩
    | next => obtain ⟨σ', H', J, q⟩ := e; exact ⟨.non, H', J.os, J.bare, J.base, J.hok, rfl, q⟩
    | brk => obtain ⟨_, _, _, q⟩ := e; exact False.elim q
    | cont => obtain ⟨_, _, _, q⟩ := e; exact False.elim q

theorem pe_callG {X : Cx} {k : Nat} {f : Addr} {fd : FuncData} {ps : List Str} {sp : Sp} {x : Str} {p pos : Pos} {e : Expr} {es : List Expr} {t : TA}
    (F : FnG X.prog X.w X.K X.mg X.base k f fd ps sp) (gd : X.A.guards = some []) (room : Room k X.A) (gl : Gl X x)
    (at_ : X.mg x = some (.ref f)) (keep : PySem.W.keepIn X.K (.ref f) = true) (bd : Binds X.K fd ps []) (args : PA X (e :: es) t)
    (h1 : (x == ("__debug__" : Str)) = false := by decide)
    (h2 : starEach (e :: es) X.env = (false, eval e X.env) :: starEach es X.env := by rfl)
    (h3 : (backTo pos (starEach es X.env)).any (·.1) = false := by rfl) :
    PE X (.Call (.Name x p) (e :: es) [] pos) (tCall sp [] E0 t) := by
  constructor
  intro pins s σ H Q I h
  refine wpAny_Call_Name_kw (ld_glob I gl at_ ?_ h1)
  refine PySem.W.callWith_K (h₀ := X.base) I.ok.mod.kin keep (thn (args.run pos pins s σ H _ I h) ?_) h2 h3
  rintro us s1 ⟨vs, H1, I1, rel, q⟩
  refine ⟨I1.kIn, ?_⟩
  have q' : sp vs H1 Q E0 := by have z := q; rw [List.append_nil] at z; exact z
  have long : us.length = ps.length := by rw [← rel.length]; exact F.size _ _ _ _ q'
  have bd' := bd s1 us I1.kIn (by rw [List.append_nil]; exact long)
  rw [List.append_nil] at bd'
  refine wpAny_call (codeAny_mono (F.go X.A X.stack s1 H1 ⟨us, []⟩ us vs Q E0 gd room I1.env0 bd' rel q') fun r s' here => ?_)
  cases r with
  | error _ => exact False.elim here
  | ok fl => cases fl with
    | ret _ => exact I1.after here
    | next => exact False.elim here
    | brk => exact False.elim here
    | cont => exact False.elim here
end
theorem lawG {P : Program} {w : World} {K : PySem.W.Frag} {mg mb : Str → Option Value} {k : Nat} {fa a : Addr} {fd : FuncData} {x : Str} {sp : Sp}
    {s₁ : Shared} {vs : List Value} {ns : List Int} (inK : K.In s₁.heap) (gl : s₁.heap.Ns mainGlobals mg) (bl : s₁.heap.Ns builtinsNs mb)
    (bb : ∀ x : Str, x ≠ "__name__" → mb x = bootBuiltins x) (lim : s₁.heap.NoLimit) (gens : s₁.gens = #[])
    (obj : s₁.heap.get? a = some { cls := .type "list", data := .seq vs.toArray }) (nums : IntsAre vs ns) (few : ns.length ≤ sizeLine) (room : Room k callerA)
    (F : ∀ base : Heap, K.In base → base.Ns mainGlobals mg → FnG P w K mg base k fa fd [x] sp)
    (bound : ∀ (s : Shared) (u : Value), BindsTo s fd ⟨[u], []⟩ [(x, u)])
    (prom : ∀ H : Hp, Only H → SqL K H a (ns.map V.int) → sp [.ref a] H (fun v _ => v = .bl true) E0) :
    codeAny (model P w) callerA (.call (.ref fa) ⟨[.ref a], []⟩)
      (fun r s' => r = .ok (.ret (.bool true)) ∧ OldK s₁.heap s'.heap ∧ s'.os = s₁.os ∧ AllBare s'.gens) s₁ := by
  have rel := vals_ints nums
  have inner : ∀ H : Hp, Only H → SqL K H a (ns.map V.int) → HOk P w H s₁.heap → (∀ b, H b ≠ none → b = a) →
      (H a ≠ none → K.lookup a = none) → codeAny (model P w) callerA (.call (.ref fa) ⟨[.ref a], []⟩)
        (fun r s' => r = .ok (.ret (.bool true)) ∧ OldK s₁.heap s'.heap ∧ s'.os = s₁.os ∧ AllBare s'.gens) s₁ := by
    intro H only seq hok alone outK
    have dictFree : ∀ {b : Addr} {o : Obj} {es : Array DictEntry} {ep : Nat}, s₁.heap.get? b = some o → o.data = .dict es ep → H b = none := by
      intro b o es ep e d
      cases q : H b with
      | none => rfl
      | some u =>
        obtain rfl : b = a := alone b (by rw [q]; intro z; cases z)
        rw [obj] at e
        cases e
        cases (show Data.seq vs.toArray _ = Data.dict es ep from d)
    have nsH : ∀ {b : Addr} {m : Str → Option Value}, s₁.heap.Ns b m → (hidT s₁.heap H).Ns b m := by
      rintro b m ⟨o, es, ep, e, d, r⟩
      exact ⟨o, es, ep, hidT_get e (dictFree e d), d, r⟩
    have kH : K.In (hidT s₁.heap H) := by
      intro b o e
      refine hidT_get (inK b o e) ?_
      cases q : H b with
      | none => rfl
      | some u =>
        obtain rfl : b = a := alone b (by rw [q]; intro z; cases z)
        rw [outK (by rw [q]; intro z; cases z)] at e
        cases e
    have limH : (hidT s₁.heap H).NoLimit := by
      obtain ⟨mc, h1, h2⟩ := lim
      exact ⟨mc, nsH h1, h2⟩
    have env : Env0 P w K mg (hidT s₁.heap H) callerA [] s₁ H := by
      refine ⟨rfl, ⟨kH, nsH gl, ⟨mb, nsH bl, bb⟩, limH⟩, fun b o e => of_hidT e, Nat.le_of_eq (hidT_size _ _), trivial, ?_, hok, .of_eq gens⟩
      intro b hb
      cases (show b ∈ ([] : List Addr) from hb)
    have G := F _ kH (nsH gl)
    refine codeAny_mono (G.go callerA [] s₁ H ⟨[.ref a], []⟩ [.ref a] [.ref a] _ _ rfl room env (bound s₁ (.ref a)) (.cons rfl .nil) (prom H only seq)) ?_
    intro r s' h
    cases r with
    | error e => exact False.elim h
    | ok fl => cases fl with
      | next => exact False.elim h
      | brk => exact False.elim h
      | cont => exact False.elim h
      | ret u =>
        obtain ⟨v, H', os, bare, un, hok', r', q⟩ := h
        obtain rfl : v = .bl true := q
        obtain rfl : u = Value.bool true := r'
        refine ⟨rfl, OldK.of_keep ?_, os, bare⟩
        intro b o e
        rcases only b with z | ⟨ob, xs, z⟩
        · exact un.keep b o e z (fun m => by cases (show b ∈ ([] : List Addr) from m)) (fun m => by cases m)
        · obtain ⟨e1, _⟩ := hok b _ z
          obtain ⟨e2, _⟩ := hok' b _ (un.frzs b ob _ z)
          rw [e] at e1
          cases e1
          exact e2
  cases written : K.lookup a with
  | some o =>
    have e := inK a o written
    rw [obj] at e
    cases e
    refine inner (fun _ => none) (fun _ => Or.inl rfl) (Or.inr ⟨_, vs.toArray, _, written, rfl, rfl, rfl, ?_, ?_⟩) (fun b u z => by cases z) (fun b z => absurd rfl z) (fun z => absurd rfl z)
    · rw [List.size_toArray, nums.length]; exact few
    · simpa using rel
  | none =>
    have yes : ∀ b : Addr, b = a → (fun b => if b = a then some (HO.frz { cls := .type "list", data := .seq vs.toArray } (.lst (ns.map V.int))) else none) b = some (HO.frz { cls := .type "list", data := .seq vs.toArray } (.lst (ns.map V.int))) := fun b e => if_pos e
    have no : ∀ b : Addr, b ≠ a → (fun b => if b = a then some (HO.frz { cls := .type "list", data := .seq vs.toArray } (.lst (ns.map V.int))) else none) b = none := fun b e => if_neg e
    refine inner (fun b => if b = a then some (HO.frz { cls := .type "list", data := .seq vs.toArray } (.lst (ns.map V.int))) else none) ?_ (Or.inl (Or.inr ⟨_, yes a rfl⟩)) ?_ ?_ (fun _ => written)
    · intro b
      by_cases same : b = a
      · exact Or.inr ⟨_, _, yes b same⟩
      · exact Or.inl (no b same)
    · intro b u z
      by_cases same : b = a
      · have z' := (yes b same).symm.trans z
        cases z'
        subst same
        exact ⟨obj, by rw [List.length_map]; exact few, vs, _, rel, obj⟩
      · have z' := (no b same).symm.trans z
        cases z'
    · intro b z
      by_cases same : b = a
      · exact same
      · exact absurd (no b same) z

theorem walkG {l : PySem.W.OpenLaw} {n k : Nat} {q : Program} {loose : List Str} {XP : (Str → Option Value) → Heap → Prop} {YP : World → Heap → Prop}
    {d : DefRec} {K : Params → PySem.W.Frag} {sp : PySem.W.Frag → Sp} {x : Str} (most : l.most = some n) (few : n ≤ sizeLine)
    (plain : d.params.defaults = []) (room : Room k callerA) (inK : ∀ (w : World) (h : Heap), YP w h → (K w.params).In h)
    (F : ∀ (w : World) (mg : Str → Option Value) (fa : Addr) (h : Heap), (K w.params).In h → h.Ns mainGlobals mg → mg d.name = some (.ref fa) →
      ∃ fd : FuncData, (∀ (s : Shared) (u : Value), BindsTo s fd ⟨[u], []⟩ [(x, u)]) ∧
        ∀ base : Heap, (K w.params).In base → base.Ns mainGlobals mg → FnG l.prog w (K w.params) mg base k fa fd [x] (sp (K w.params)))
    (prom : ∀ (K : PySem.W.Frag) (H : Hp) (a : Addr) (ns : List Int), ns.length ≤ n → Only H → SqL K H a (ns.map V.int) →
      sp K [.ref a] H (fun v _ => v = .bl true) E0) :
    PySem.W.WalkO q loose XP YP l.row.toRowW d [] (fun f vs => PySem.call f vs) := by
  refine Att.attach_call most plain ?_
  intro w s₀ s₁ mg mb fa o pm cd doc a vs ns G Y ho hd hcd named obj nums len gens
  obtain ⟨fd, bound, hF⟩ := F w mg fa _ (inK w _ Y) G.T.g named
  exact lawG (inK w _ Y) G.T.g G.T.b G.T.builtins G.T.nolimit gens obj nums (Nat.le_trans len few) room hF bound
    (fun H only seq => prom (K w.params) H a ns len only seq)
end SL
namespace SL
open PySem PySem.Spec PyProof.Rows L2
theorem op_powB {X : Cx} : OpR X (binaryOp .Pow) (rI (fun i j => 0 ≤ j ∧ (Builtin.Int.intBits i : Int) * j ≤ 2 ^ 27) fun i j => .int (i ^ j.toNat)) :=
  opI fun _ _ _ _ _ _ _ c q => pow_int c.1 c.2 q

def Da (K : PySem.W.Frag) (H : Hp) (v : V) (d : PyData) : Prop :=
  (Dp K H v d ∧ d.hasDict = false) ∨ ∃ a, v = .ref a ∧ H a = some (.dK []) ∧ d = .dict []
def rRepr (K : PySem.W.Frag) : List V → Hp → VK → Prop := fun xs H Q => ∃ v d, xs = [v] ∧ Da K H v d ∧ d.showable = true ∧ d.depth ≤ 50 ∧
  d.shown.length ≤ sizeLine ∧ Q (.str d.shown) H
theorem call_reprD {X : Cx} (gd : X.A.guards = some []) (hu : X.A.units + 64 < cLine) : CallR X (.builtin "repr") (rRepr X.K) := by
  intro pins s σ H xs us Q I r h
  obtain ⟨v, d, rfl, da, sh, dep, siz, q⟩ := h
  cases r with
  | cons r0 rt =>
    cases rt
    rename_i u
    have big : ∀ (a : Addr) (as : List Addr), Reads s.heap (.ref a) d as → (d.hasDict = true → sysModules ∉ as) → u = .ref a →
        wpAny (model X.prog X.w) X.A (call (.builtin "repr") [u]) (EP X pins σ Q) X.xe s := by
      intro a as rd nd e
      subst e
      refine repr_of_reads' rd sh nd gd (by omega) (fun _ _ e => e) (fun h' u tk kept => ?_) siz
      exact ⟨.str d.shown, H, I.kept kept, ⟨_, rfl⟩, q⟩
    rcases da with ⟨dp, nd⟩ | ⟨a, rfl, ha, rfl⟩
    · obtain ⟨as, rd⟩ := Dp.reads I d v u dp r0
      cases dp with
      | non => cases r0; exact PySem.P.repr_of_none ⟨.str _, H, I.tok _, ⟨_, rfl⟩, q⟩
      | bl b => cases r0; exact PySem.P.repr_of_bool ⟨.str _, H, I.tok _, ⟨_, rfl⟩, q⟩
      | int i =>
        obtain ⟨t, rfl⟩ := r0
        exact PySem.P.repr_of_int (of_decide_eq_true sh) ⟨.str _, H, I.tok _, ⟨_, rfl⟩, q⟩
      | str x =>
        obtain ⟨t, rfl⟩ := r0
        exact PySem.P.repr_of_str (h := ⟨.str _, H, I.tok _, ⟨_, rfl⟩, q⟩) siz
      | lst _ _ => cases r0; exact big _ as rd (fun z => by rw [nd] at z; cases z) rfl
      | tup _ _ => cases r0; exact big _ as rd (fun z => by rw [nd] at z; cases z) rfl
    · cases r0
      obtain ⟨_, ns, vs, kv, o, es, ep, e, ex, dt, rest⟩ := I.hok a _ ha
      cases kv
      have e0 : es.toList = [] := by
        have z := rest.2.1.length
        cases q : es.toList with
        | nil => rfl
        | cons x y => rw [q] at z; cases z
      refine big a ([a]) ?_ (fun _ m => ?_) rfl
      · exact Reads.dict (as := []) (bs := []) e ex.1 dt (by rw [e0]; exact .nil) (by rw [e0]; exact .nil)
      · rw [List.mem_singleton] at m
        rw [← m] at ns
        simp at ns

theorem objGet {P : Program} {w : World} {H : Hp} {h : Heap} {a : Addr} {o : HO} (x : ObjOk P w H h a o) : ∃ u, h.get? a = some u := by
  cases o with
  | lst xs => obtain ⟨_, _, _, _, e⟩ := x; exact ⟨_, e⟩
  | tup xs => obtain ⟨_, _, _, _, e, _⟩ := x; exact ⟨_, e⟩
  | dK kvs => obtain ⟨_, _, _, _, _, _, _, e, _⟩ := x; exact ⟨_, e⟩
  | dT kvs => obtain ⟨_, _, _, _, _, _, _, e, _⟩ := x; exact ⟨_, e⟩
  | set S n => obtain ⟨_, _, _, _, e, _⟩ := x; exact ⟨_, e⟩
  | ins C dx fs => obtain ⟨_, _, _, e, _⟩ := x; exact ⟨_, e⟩
  | own y => exact x
  | xd fs => obtain ⟨_, ⟨_, _, _, e, _⟩, _⟩ := x; exact ⟨_, e⟩
  | rng lo hi => obtain ⟨_, _, _, e⟩ := x; exact ⟨_, e⟩
  | frz ob u => obtain ⟨e, _⟩ := x; exact ⟨_, e⟩
  | tbl ps => exact ⟨_, x⟩
  | met f y => exact ⟨_, x⟩
  | ext φ => obtain ⟨_, e, _⟩ := x; exact e

def rSortT (K : PySem.W.Frag) : List V → Hp → VK → Prop := fun vs H Q => ∃ (a : Addr) (ns : List Int), vs = [V.ref a] ∧ SqT K H a (ns.map V.int) ∧
  ∀ (out : List Int) (p : Addr), out.Perm ns → out.Pairwise (· ≤ ·) → H p = none → Q (.ref p) (upd H p (.lst (out.map V.int)))
theorem cr_sortT {X : Cx} : CallR X (.builtin "sorted") (rSortT X.K) := by
  intro pins s σ H vs us Q I r h
  obtain ⟨a, ns, rfl, hs, q⟩ := h
  obtain ⟨its, rv, ht, hz⟩ := I.tuple hs
  obtain ⟨o, ho, hc, n, hd⟩ := id ht
  rw [Vals.ref1 r]
  have nums := rv.ints
  have hz' : its.length ≤ sizeLine := by rw [← rv.length]; exact hz
  refine Calls.call_function_entry kind_sorted plain_sorted entry_sorted (args_sorted1 _) ?_
  unfold Builtin.«sorted»
  refine wpAny_bind (m := checkCount "sorted" 1 1 _) (wpAny_pure ?_)
  refine wpAny_bind (wpAny_collect_seq a (Or.inr rfl) ho hc hd (fun h1 kept => ?_) (by simpa using hz'))
  refine wpAny_bind (wpAny_newList ?_ (by simpa using hz'))
  have hoL : (h1.push (seqObj "list" its.toArray 0)).get? h1.objs.size = some (seqObj "list" its.toArray 0) := Heap.get?_push_size _ rfl
  have new1 : s.heap.get? h1.objs.size = none := by
    cases q : s.heap.get? h1.objs.size with
    | none => rfl
    | some o => exact absurd (Heap.lt_size (kept _ _ q)) (Nat.lt_irrefl _)
  have new2 : H h1.objs.size = none := by
    cases q : H h1.objs.size with
    | none => rfl
    | some u =>
      obtain ⟨o, z⟩ := objGet (I.hok _ _ q)
      rw [new1] at z
      cases z
  show wpAny _ _ _ _ _ { s with heap := h1.push (seqObj "list" its.toArray 0) }
  refine wpAny_bind (wpAny_holding (wpAny_call_entry slot_list_sort ⟨_, hoL, rfl⟩ entry_list_sort
    (SrtO.list_sort_ord SrtO.swo_int hoL hz' (fun h2 => SrtO.ints_sortable nums h2) fun out hs hb => ⟨_, rfl, ?_⟩) (args_list_sort _)))
  refine wpAny_pure ⟨_, rfl, ?_⟩
  obtain ⟨k1, k2, k3⟩ := SrtO.ints_out nums hs hb
  obtain ⟨ep, he⟩ := sortedHeap_at (vs := its) (out := out.toArray) hoL
  have len : ((out.map SrtO.iv).map V.int).length ≤ sizeLine := by
    rw [List.length_map, k2.length_eq]
    rw [List.length_map] at hz
    exact hz
  refine ⟨.ref h1.objs.size, upd H h1.objs.size (.lst ((out.map SrtO.iv).map V.int)), I.laidN (t' := s.toks) ?_ new1 new2 ⟨len, out, ep, vals_of_ints k1, he⟩, rfl, q _ _ k2 k3 new2⟩
  intro b u hu
  have lt : b < h1.objs.size := Heap.lt_size (kept _ _ hu)
  have lt2 : b < (h1.push (seqObj "list" its.toArray 0)).objs.size := by rw [Heap.size_push]; exact Nat.lt_succ_of_lt lt
  rw [sortedHeap_old (Nat.ne_of_lt lt) lt2]
  exact Heap.get?_push_of_some _ (kept _ _ hu)

end SL
namespace SL
open PySem PySem.Spec PyProof.Rows L2 PySem.W PySem.Calls
section
variable {P : Program} {w : World} {A : Around} {E : Value → Shared → Prop} {s : Shared} {a : Addr} {f : Value} {n : Nat} {vs : List Value} {kz : List PyData} {Q : PySem.Fin → Shared → Prop}
end
section
variable {P : Program} {w : World} {A : Around} {E : Value → Shared → Prop} {s : Shared} {r fa : Addr} {hi : Int} {t u v : Tok} {m : Nat} {Q : Value → Shared → Prop} {kz : List PyData}
end
end SL
namespace SL
open PySem PySem.Spec PyProof.Rows L2 LamX
section
variable {X : Cx} {pins : List (Addr × Obj)} {σ : L2.St} {H : Hp} {s : Shared}
end
end SL
namespace SL
open PySem PySem.Spec PyProof.Rows L2 LamX PySem.W
def KeyV (H : Hp) (z : V) (d : PyData) : Prop := (∃ i : Int, z = .int i ∧ d = .int i) ∨ ∃ (t : Addr) (i j : Int), z = .ref t ∧ H t = some (.tup [.int i, .int j]) ∧ d = .tuple [.int i, .int j]
theorem KeyV.same {H H' : Hp} {z : V} {d : PyData} (k : KeyV H z d) (s : Same H H') : KeyV H' z d := by
  rcases k with h | ⟨t, i, j, a, b, c⟩
  · exact Or.inl h
  · exact Or.inr ⟨t, i, j, a, s _ _ b, c⟩
theorem KeyV.reads {P : Program} {w : World} {H : Hp} {h : Heap} {z : V} {u : Value} {d : PyData} (k : KeyV H z d) (ok : HOk P w H h) (r : RelV z u) : ∃ as, Reads h u d as := by
  rcases k with ⟨i, rfl, rfl⟩ | ⟨t, i, j, rfl, ht, rfl⟩
  · obtain ⟨t, rfl⟩ := r
    exact ⟨_, .int i t⟩
  · obtain rfl : u = Value.ref t := r
    obtain ⟨_, its, rv, ob, e, cl, n, dat⟩ := ok t _ ht
    cases rv with
    | cons r1 t1 =>
      cases t1 with
      | cons r2 t2 =>
        cases t2
        obtain ⟨t1, rfl⟩ := r1
        obtain ⟨t2, rfl⟩ := r2
        exact ⟨_, .tuple e cl dat (.cons (.int i t1) (.cons (.int j t2) .nil))⟩
section
variable {X : Cx} {pins : List (Addr × Obj)} {σ : L2.St} {H H0 : Hp} {s s0 : Shared}
end
end SL
namespace SL
open PySem PySem.Spec PyProof.Rows L2 LamX PySem.W
end SL
namespace DL
open PySem PySem.Spec PyProof.Rows L2 LamX PySem.W SL
inductive D where
  | non | bl (b : Bool) | int (i : Int) | str (x : Str) | tup (ds : List D) | tuk (ds : List D) | lst (ds : List D) | scr (ds : List D) | ref (n : Nat)
inductive O where
  | lst (ds : List D)
  | dK (kvs : List (Key × D))
  | dT (kvs : List (List Key × D))
  | lk (ob : Obj) (ys : List (Key × V)) (kvs : List (Key × D))
abbrev DSt := List O
abbrev DEnv := List (Option D)
abbrev DK := D → DSt → Prop
structure Pl where
  h : Nat
  m : List Addr
def Pl.at_ (M : Pl) (n : Nat) : Option Addr := M.m[M.h + n]?
def Pl.app (M : Pl) (l : List Addr) : Pl := ⟨M.h, M.m ++ l⟩
mutual
inductive RV (K : PySem.W.Frag) (M : Pl) (H : Hp) : D → V → Prop
  | non : RV K M H .non .non
  | bl (b : Bool) : RV K M H (.bl b) (.bl b)
  | int (i : Int) : RV K M H (.int i) (.int i)
  | str (x : Str) : RV K M H (.str x) (.str x)
  | tup {a : Addr} {ob : Obj} {xs : List V} {ds : List D} : a ∉ M.m → H a = some (.frz ob (.tup xs)) → ob.dict = none → RVs K M H ds xs → RV K M H (.tup ds) (.ref a)
  | tuk {a : Addr} {xs : List V} {ds : List D} : a ∉ M.m → H a = some (.tup xs) → RVs K M H ds xs → RV K M H (.tuk ds) (.ref a)
  | lst {a : Addr} {xs : List V} {ds : List D} : a ∉ M.m → H a = some (.lst xs) → RVs K M H ds xs → RV K M H (.lst ds) (.ref a)
  | scr {a : Addr} {xs : List V} {ds : List D} : a ∉ M.m → Rd H a (.lst xs) → RVs K M H ds xs → RV K M H (.scr ds) (.ref a)
  | lsk {a : Addr} {xs : List V} {ds : List D} : (∀ G : Hp, SqL K G a xs) → RVs K M H ds xs → RV K M H (.scr ds) (.ref a)
  | ref {n : Nat} {a : Addr} : M.at_ n = some a → RV K M H (.ref n) (.ref a)
inductive RVs (K : PySem.W.Frag) (M : Pl) (H : Hp) : List D → List V → Prop
  | nil : RVs K M H [] []
  | cons {d : D} {v : V} {ds : List D} {vs : List V} : RV K M H d v → RVs K M H ds vs → RVs K M H (d :: ds) (v :: vs)
end
def NT (H : Hp) (a : Addr) : Prop := ∃ o, H a = some o ∧ ∀ ps, o ≠ .tbl ps
theorem NT.no {H : Hp} {a : Addr} (h : H a = none) : ¬ NT H a := fun ⟨o, e, _⟩ => by rw [h] at e; cases e
theorem NT.upd {H : Hp} {a p : Addr} {o : HO} (h : NT H a) (ne : a ≠ p) : NT (upd H p o) a := by
  obtain ⟨u, e, n⟩ := h
  exact ⟨u, by rw [upd_ne ne]; exact e, n⟩
theorem NT.ne {H : Hp} {a p : Addr} (h : NT H a) (np : H p = none) : a ≠ p := fun z => NT.no np (by rw [← z]; exact h)
structure Grow (M : Pl) (H : Hp) (M' : Pl) (H' : Hp) : Prop where
  more : ∃ m, M' = M.app m ∧ ∀ a ∈ m, ¬ NT H a
  keep : ∀ a o, a ∉ M.m → H a = some o → (∀ ps, o ≠ .tbl ps) → H' a = some o
  there : ∀ a, NT H a → NT H' a
  hid : ∀ a ∈ M.m.take M.h, H' a = H a
theorem Pl.app_nil (M : Pl) : M.app [] = M := by unfold Pl.app; rw [List.append_nil]
theorem Grow.refl (M : Pl) (H : Hp) : Grow M H M H := ⟨⟨[], (Pl.app_nil M).symm, fun _ h => nomatch h⟩, fun _ _ _ h _ => h, fun _ h => h, fun _ _ => rfl⟩
theorem Grow.notin {M M' : Pl} {H H' : Hp} (g : Grow M H M' H') {a : Addr} (h : a ∉ M.m) (t : NT H a) : a ∉ M'.m := by
  obtain ⟨m, rfl, fr⟩ := g.more
  intro z
  rcases List.mem_append.mp z with z | z
  · exact h z
  · exact fr a z t
theorem take_app {M : Pl} {m : List Addr} {a : Addr} (h : a ∈ M.m.take M.h) : a ∈ (M.app m).m.take (M.app m).h := by
  show a ∈ (M.m ++ m).take M.h
  rw [List.take_append]
  exact List.mem_append_left _ h
theorem Grow.trans {M M1 M2 : Pl} {H H1 H2 : Hp} (a : Grow M H M1 H1) (b : Grow M1 H1 M2 H2) : Grow M H M2 H2 := by
  refine ⟨?_, fun c o n h t => ?_, fun c h => b.there c (a.there c h), fun c hc => ?_⟩
  · obtain ⟨m1, rfl, f1⟩ := a.more
    obtain ⟨m2, rfl, f2⟩ := b.more
    refine ⟨m1 ++ m2, by unfold Pl.app; simp, fun c hc => ?_⟩
    rcases List.mem_append.mp hc with z | z
    · exact f1 c z
    · exact fun q => f2 c z (a.there c q)
  · exact b.keep c o (a.notin n ⟨o, h, t⟩) (a.keep c o n h t) t
  · obtain ⟨m1, rfl, f1⟩ := id a.more
    exact (b.hid c (take_app hc)).trans (a.hid c hc)
theorem Grow.get {M M' : Pl} {H H' : Hp} (g : Grow M H M' H') {n : Nat} {a : Addr} (h : M.at_ n = some a) : M'.at_ n = some a := by
  obtain ⟨m, rfl, _⟩ := g.more
  unfold Pl.at_ at h ⊢
  show (M.m ++ m)[M.h + n]? = some a
  rw [List.getElem?_append_left (List.getElem?_eq_some_iff.mp h).1]
  exact h
theorem Pl.at_mem {M : Pl} {n : Nat} {a : Addr} (h : M.at_ n = some a) : a ∈ M.m := List.mem_of_getElem? h

def HidOk (M : Pl) (H : Hp) : Prop := ∀ a ∈ M.m.take M.h, ∃ xs, H a = some (.lst xs)
theorem Grow.new {M : Pl} {H : Hp} {p : Addr} {o : HO} (ho : HidOk M H) (h : H p = none) : Grow M H M (upd H p o) :=
  ⟨⟨[], (Pl.app_nil M).symm, fun _ h => nomatch h⟩, fun a u _ e _ => by rw [upd_ne (ne_of_none e h)]; exact e, fun a e => e.upd (e.ne h), fun a ha => by
    obtain ⟨xs, e⟩ := ho a ha
    exact upd_ne (ne_of_none e h)⟩
theorem Grow.place {M : Pl} {H : Hp} {p : Addr} {o : HO} (ho : HidOk M H) (h : H p = none) : Grow M H (M.app [p]) (upd H p o) :=
  ⟨⟨[p], rfl, fun a ha => by rw [List.mem_singleton.mp ha]; exact NT.no h⟩, (Grow.new ho h).keep, (Grow.new ho h).there, (Grow.new ho h).hid⟩
theorem Grow.write {M : Pl} {H : Hp} {n : Nat} {p : Addr} {o : HO} (nd : M.m.Nodup) (hp : M.at_ n = some p) (no : ∀ ps, o ≠ .tbl ps := by intro ps z; cases z) : Grow M H M (upd H p o) :=
  ⟨⟨[], (Pl.app_nil M).symm, fun _ h => nomatch h⟩, fun a u n e _ => by rw [upd_ne (fun z : a = p => n (by rw [z]; exact Pl.at_mem hp))]; exact e, fun a e => by
    by_cases z : a = p
    · rw [z]; exact ⟨o, upd_same, no⟩
    · exact e.upd z, fun a ha => by
    refine upd_ne fun z => ?_
    subst z
    obtain ⟨i, hi⟩ := List.mem_iff_getElem?.mp ha
    rw [List.getElem?_take] at hi
    split at hi
    · obtain ⟨l1, q1⟩ := List.getElem?_eq_some_iff.mp hi
      obtain ⟨l2, q2⟩ := List.getElem?_eq_some_iff.mp hp
      have := (List.getElem_inj nd).mp (q1.trans q2.symm)
      omega
    · cases hi⟩
theorem Rd.grow {M M' : Pl} {H H' : Hp} (g : Grow M H M' H') {a : Addr} {xs : List V} (n : a ∉ M.m) (r : Rd H a (.lst xs)) : Rd H' a (.lst xs) := by
  rcases r with r | ⟨o, r⟩
  · exact .inl (g.keep a _ n r (fun ps z => by cases z))
  · exact .inr ⟨o, g.keep a _ n r (fun ps z => by cases z)⟩
theorem Rd.there {H : Hp} {a : Addr} {xs : List V} (r : Rd H a (.lst xs)) : NT H a := by
  rcases r with r | ⟨o, r⟩ <;> exact ⟨_, r, fun ps z => by cases z⟩
mutual
theorem RV.grow {K : PySem.W.Frag} {M M' : Pl} {H H' : Hp} (g : Grow M H M' H') : ∀ {d : D} {v : V}, RV K M H d v → RV K M' H' d v
  | _, _, .non => .non
  | _, _, .bl b => .bl b
  | _, _, .int i => .int i
  | _, _, .str x => .str x
  | _, _, .tup n h e r => .tup (g.notin n ⟨_, h, fun ps z => by cases z⟩) (g.keep _ _ n h (fun ps z => by cases z)) e (r.grow g)
  | _, _, .tuk n h r => .tuk (g.notin n ⟨_, h, fun ps z => by cases z⟩) (g.keep _ _ n h (fun ps z => by cases z)) (r.grow g)
  | _, _, .lst n h r => .lst (g.notin n ⟨_, h, fun ps z => by cases z⟩) (g.keep _ _ n h (fun ps z => by cases z)) (r.grow g)
  | _, _, .scr n h r => .scr (g.notin n (Rd.there h)) (Rd.grow g n h) (r.grow g)
  | _, _, .lsk h r => .lsk h (r.grow g)
  | _, _, .ref h => .ref (g.get h)
theorem RVs.grow {K : PySem.W.Frag} {M M' : Pl} {H H' : Hp} (g : Grow M H M' H') : ∀ {d : List D} {v : List V}, RVs K M H d v → RVs K M' H' d v
  | _, _, .nil => .nil
  | _, _, .cons h t => .cons (h.grow g) (t.grow g)
end
def RO (K : PySem.W.Frag) (M : Pl) (H : Hp) : O → Addr → Prop
  | .lst ds, a => ∃ xs, H a = some (.lst xs) ∧ RVs K M H ds xs
  | .dK kvs, a => ∃ ys : List (Key × V), H a = some (.dK ys) ∧ kvs.map (·.1) = ys.map (·.1) ∧ RVs K M H (kvs.map (·.2)) (ys.map (·.2))
  | .dT kvs, a => ∃ ys : List (List Key × V), H a = some (.dT ys) ∧ kvs.map (·.1) = ys.map (·.1) ∧ RVs K M H (kvs.map (·.2)) (ys.map (·.2))
  | .lk ob ys kvs, a => H a = some (.frz ob (.dK ys)) ∧ kvs.map (·.1) = ys.map (·.1) ∧ RVs K M H (kvs.map (·.2)) (ys.map (·.2))
structure RS (T : List (Addr × Str)) (K : PySem.W.Frag) (M : Pl) (st : DSt) (H : Hp) : Prop where
  len : M.m.length = M.h + st.length
  nd : M.m.Nodup
  obj : ∀ (n : Nat) (a : Addr) (o : O), M.at_ n = some a → st[n]? = some o → RO K M H o a
  tabs : Tabs T H
  hid : HidOk M H
structure RE (K : PySem.W.Frag) (M : Pl) (H : Hp) (r : DEnv) (σ : L2.St) : Prop where
  len : r.length = σ.length
  at_ : ∀ (i : Nat) (d : D), r[i]? = some (some d) → ∃ v, σ[i]? = some (some v) ∧ RV K M H d v
theorem RE.grow {K : PySem.W.Frag} {M M' : Pl} {H H' : Hp} {r : DEnv} {σ : L2.St} (h : RE K M H r σ) (g : Grow M H M' H') : RE K M' H' r σ :=
  ⟨h.len, fun i d e => by obtain ⟨v, e1, e2⟩ := h.at_ i d e; exact ⟨v, e1, e2.grow g⟩⟩
theorem RO.stay {K : PySem.W.Frag} {M M' : Pl} {H H' : Hp} (g : Grow M H M' H') {o : O} {a : Addr} (h : RO K M H o a) (e : H' a = H a) : RO K M' H' o a := by
  cases o with
  | lst ds => obtain ⟨xs, h1, h2⟩ := h; exact ⟨xs, e.trans h1, h2.grow g⟩
  | dK kvs => obtain ⟨ys, h1, h2, h3⟩ := h; exact ⟨ys, e.trans h1, h2, h3.grow g⟩
  | dT kvs => obtain ⟨ys, h1, h2, h3⟩ := h; exact ⟨ys, e.trans h1, h2, h3.grow g⟩
  | lk ob ys kvs => obtain ⟨h1, h2, h3⟩ := h; exact ⟨e.trans h1, h2, h3.grow g⟩
theorem RO.mut {K : PySem.W.Frag} {M : Pl} {H : Hp} {o : O} {a : Addr} (h : RO K M H o a) : (∃ xs, H a = some (.lst xs)) ∨ (∃ xs, H a = some (.dK xs)) ∨ (∃ xs, H a = some (.dT xs)) ∨ ∃ ob xs, H a = some (.frz ob (.dK xs)) := by
  cases o with
  | lst ds => obtain ⟨xs, h1, h2⟩ := h; exact .inl ⟨_, h1⟩
  | dK kvs => obtain ⟨ys, h1, h2, h3⟩ := h; exact .inr (.inl ⟨_, h1⟩)
  | dT kvs => obtain ⟨ys, h1, h2, h3⟩ := h; exact .inr (.inr (.inl ⟨_, h1⟩))
  | lk ob ys kvs => obtain ⟨h1, h2, h3⟩ := h; exact .inr (.inr (.inr ⟨_, _, h1⟩))
theorem RS.atM {T : List (Addr × Str)} {K : PySem.W.Frag} {M : Pl} {st : DSt} {H : Hp} (h : RS T K M st H) {n : Nat} {a : Addr} (e : M.at_ n = some a) : ∃ o, st[n]? = some o ∧ RO K M H o a := by
  have lt : n < st.length := by
    have := (List.getElem?_eq_some_iff.mp e).1
    have := h.len
    omega
  exact ⟨st[n], List.getElem?_eq_getElem lt, h.obj n a _ e (List.getElem?_eq_getElem lt)⟩
theorem RS.addr {T : List (Addr × Str)} {K : PySem.W.Frag} {M : Pl} {st : DSt} {H : Hp} (h : RS T K M st H) {n : Nat} {o : O} (e : st[n]? = some o) : ∃ a, M.at_ n = some a ∧ RO K M H o a := by
  have lt : M.h + n < M.m.length := by
    rw [h.len]
    have := (List.getElem?_eq_some_iff.mp e).1
    omega
  exact ⟨M.m[M.h + n], List.getElem?_eq_getElem lt, h.obj n _ o (List.getElem?_eq_getElem lt) e⟩
theorem RS.mutAt {T : List (Addr × Str)} {K : PySem.W.Frag} {M : Pl} {st : DSt} {H : Hp} (h : RS T K M st H) {a : Addr} (ha : a ∈ M.m) : (∃ xs, H a = some (.lst xs)) ∨ (∃ xs, H a = some (.dK xs)) ∨ (∃ xs, H a = some (.dT xs)) ∨ ∃ ob xs, H a = some (.frz ob (.dK xs)) := by
  obtain ⟨n, hn⟩ := List.mem_iff_getElem?.mp ha
  by_cases lt : n < M.h
  · refine .inl (h.hid a ?_)
    refine List.mem_of_getElem? (i := n) ?_
    rw [List.getElem?_take, if_pos lt]
    exact hn
  · obtain ⟨o, _, ro⟩ := h.atM (n := n - M.h) (a := a) (by
      unfold Pl.at_
      rw [show M.h + (n - M.h) = n by omega]
      exact hn)
    exact ro.mut
theorem RS.tabNe {T : List (Addr × Str)} {K : PySem.W.Frag} {M : Pl} {st : DSt} {H : Hp} (h : RS T K M st H) {a b : Addr} (ha : a ∈ M.m) {u : HO} (hb : H b = some u) (hu : (∃ ps, u = .tbl ps) ∨ ∃ φ, u = .ext φ) : a ≠ b := by
  intro z
  subst z
  rcases h.mutAt ha with ⟨xs, q⟩ | ⟨xs, q⟩ | ⟨xs, q⟩ | ⟨_, xs, q⟩ <;> rw [hb] at q <;> rcases hu with ⟨ps, rfl⟩ | ⟨φ, rfl⟩ <;> cases q
theorem tabs_upd {T : List (Addr × Str)} {H : Hp} {p : Addr} {o : HO} (t : Tabs T H) (h : ∀ b u, H b = some u → ((∃ ps, u = .tbl ps) ∨ ∃ φ, u = .ext φ) → b ≠ p) : Tabs T (upd H p o) := by
  intro q hq
  obtain ⟨ps, h1, h2, h3⟩ := t q hq
  refine ⟨ps, ?_, h2, fun pos cv hc => ?_⟩
  · rw [upd_ne (h _ _ h1 (.inl ⟨ps, rfl⟩))]
    exact h1
  · obtain ⟨c, e1, e2⟩ := h3 pos cv hc
    refine ⟨c, e1, ?_⟩
    rw [upd_ne (h _ _ e2 (.inr ⟨_, rfl⟩))]
    exact e2
theorem RS.notin {T : List (Addr × Str)} {K : PySem.W.Frag} {M : Pl} {st : DSt} {H : Hp} (h : RS T K M st H) {p : Addr} (np : H p = none) : p ∉ M.m := by
  intro z
  rcases h.mutAt z with ⟨xs, q⟩ | ⟨xs, q⟩ | ⟨xs, q⟩ | ⟨_, xs, q⟩ <;> rw [np] at q <;> cases q
theorem HidOk.upd {M : Pl} {H : Hp} {p : Addr} {o : HO} (h : HidOk M H) (np : H p = none) : HidOk M (upd H p o) := fun a ha => by
  obtain ⟨xs, e⟩ := h a ha
  exact ⟨xs, by rw [upd_ne (ne_of_none e np)]; exact e⟩
theorem HidOk.keep {M M' : Pl} {H H' : Hp} (h : HidOk M H) (g : Grow M H M' H') : HidOk M H' := fun a ha => by
  rw [g.hid a ha]
  exact h a ha
theorem RS.new {T : List (Addr × Str)} {K : PySem.W.Frag} {M : Pl} {st : DSt} {H : Hp} (h : RS T K M st H) {p : Addr} {o : HO} (np : H p = none) : RS T K M st (upd H p o) := by
  refine ⟨h.len, h.nd, fun n a u e1 e2 => ?_, tabs_upd h.tabs fun b u hb _ => ne_of_none hb np, h.hid.upd np⟩
  exact (h.obj n a u e1 e2).stay (Grow.new h.hid np) (upd_ne fun z => h.notin np (by rw [← z]; exact Pl.at_mem e1))
theorem RS.place {T : List (Addr × Str)} {K : PySem.W.Frag} {M : Pl} {st : DSt} {H : Hp} (h : RS T K M st H) {p : Addr} {o : HO} {u : O} (np : H p = none) (ro : RO K (M.app [p]) (upd H p o) u p) : RS T K (M.app [p]) (st ++ [u]) (upd H p o) := by
  refine ⟨?_, ?_, fun n a q e1 e2 => ?_, tabs_upd h.tabs fun b u hb _ => ne_of_none hb np, ?_⟩
  · show (M.m ++ [p]).length = M.h + (st ++ [u]).length
    rw [List.length_append, List.length_append, h.len, Nat.add_assoc]
    rfl
  · show (M.m ++ [p]).Nodup
    rw [List.nodup_append]
    refine ⟨h.nd, by simp, fun a ha b hb => ?_⟩
    rw [List.mem_singleton.mp hb]
    exact fun z => h.notin np (z ▸ ha)
  · have e1' : (M.m ++ [p])[M.h + n]? = some a := e1
    by_cases lt : n < st.length
    · rw [List.getElem?_append_left (by rw [h.len]; omega)] at e1'
      rw [List.getElem?_append_left lt] at e2
      exact (h.obj n a q e1' e2).stay (Grow.place h.hid np) (upd_ne fun z => h.notin np (by rw [← z]; exact List.mem_of_getElem? e1'))
    · rw [List.getElem?_append_right (by rw [h.len]; omega)] at e1'
      rw [List.getElem?_append_right (by omega)] at e2
      have n0 : M.h + n - M.m.length = 0 := by
        have := (List.getElem?_eq_some_iff.mp e1').1
        simp at this
        omega
      have n1 : n - st.length = 0 := by rw [h.len] at n0; omega
      rw [n0] at e1'
      rw [n1] at e2
      cases e1'
      cases e2
      exact ro
  · intro a ha
    have ha' : a ∈ (M.m ++ [p]).take M.h := ha
    rw [List.take_append_of_le_length (by rw [h.len]; omega)] at ha'
    exact h.hid.upd np a ha'
theorem RS.write {T : List (Addr × Str)} {K : PySem.W.Frag} {M : Pl} {st : DSt} {H : Hp} (h : RS T K M st H) {n : Nat} {p : Addr} {o : HO} {u : O} (hp : M.at_ n = some p) (ro : RO K M (upd H p o) u p) (no : ∀ ps, o ≠ .tbl ps := by intro ps z; cases z) : RS T K M (st.set n u) (upd H p o) := by
  have pm : p ∈ M.m := Pl.at_mem hp
  refine ⟨by rw [List.length_set]; exact h.len, h.nd, fun m a q e1 e2 => ?_, tabs_upd h.tabs fun b u hb z => (h.tabNe pm hb z).symm, h.hid.keep (Grow.write h.nd hp no)⟩
  by_cases e : m = n
  · subst e
    rw [hp] at e1
    cases e1
    rw [List.getElem?_set_self (by
      have := (List.getElem?_eq_some_iff.mp hp).1
      have := h.len
      omega)] at e2
    cases e2
    exact ro
  · rw [List.getElem?_set_ne (fun z => e z.symm)] at e2
    refine (h.obj m a q e1 e2).stay (Grow.write h.nd hp no) (upd_ne fun z => e ?_)
    subst z
    obtain ⟨l1, q1⟩ := List.getElem?_eq_some_iff.mp e1
    obtain ⟨l2, q2⟩ := List.getElem?_eq_some_iff.mp hp
    have := (List.getElem_inj h.nd).mp (q1.trans q2.symm)
    omega
end DL
namespace DL
open PySem PySem.Spec PyProof.Rows L2 LamX PySem.W SL
abbrev DTE := DEnv → DSt → DK → Prop
abbrev DTA := DEnv → DSt → (List D → DSt → Prop) → Prop
abbrev DTT := DEnv → DSt → (Bool → DSt → Prop) → Prop
abbrev DR2 := D → D → DSt → DK → Prop
abbrev DRs := List D → DSt → DK → Prop
def Kn (T : List (Addr × Str)) (K : Frag) (M : Pl) (H : Hp) (Q' : DK) (Q : VK) : Prop :=
  ∀ M' H' st' d v, Grow M H M' H' → RS T K M' st' H' → RV K M' H' d v → Q' d st' → Q v H'
theorem Kn.grow {T : List (Addr × Str)} {K : Frag} {M M1 : Pl} {H H1 : Hp} {Q' : DK} {Q : VK} (k : Kn T K M H Q' Q) (g : Grow M H M1 H1) : Kn T K M1 H1 Q' Q :=
  fun M' H' st' d v g1 s r q => k M' H' st' d v (g.trans g1) s r q
theorem Kn.here {T : List (Addr × Str)} {K : Frag} {M : Pl} {H : Hp} {Q' : DK} {Q : VK} {st : DSt} {d : D} {v : V} (k : Kn T K M H Q' Q) (s : RS T K M st H) (r : RV K M H d v) (q : Q' d st) : Q v H :=
  k M H st d v (Grow.refl M H) s r q
def lift (T : List (Addr × Str)) (K : Frag) (f : DTE) : TE := fun σ H Q => ∃ M r st Q', RS T K M st H ∧ RE K M H r σ ∧ f r st Q' ∧ Kn T K M H Q' Q
def liftA (T : List (Addr × Str)) (K : Frag) (f : DTA) : TA := fun σ H Q => ∃ M r st Q', RS T K M st H ∧ RE K M H r σ ∧ f r st Q' ∧
  ∀ M' H' st' ds vs, Grow M H M' H' → RS T K M' st' H' → RVs K M' H' ds vs → Q' ds st' → Q vs H'
def liftT (T : List (Addr × Str)) (K : Frag) (f : DTT) : TT := fun σ H Q => ∃ M r st Q', RS T K M st H ∧ RE K M H r σ ∧ f r st Q' ∧
  ∀ M' H' st' b, Grow M H M' H' → RS T K M' st' H' → Q' b st' → Q b H'
theorem PE.imp {X : Cx} {e : Expr} {t t' : TE} (h : PE X e t) (i : ∀ σ H Q, t' σ H Q → t σ H Q) : PE X e t' := ⟨fun pins s σ H Q I z => h.run pins s σ H Q I (i σ H Q z)⟩
theorem PA.imp {X : Cx} {e : List Expr} {t t' : TA} (h : PA X e t) (i : ∀ σ H Q, t' σ H Q → t σ H Q) : PA X e t' := ⟨fun pos pins s σ H Q I z => h.run pos pins s σ H Q I (i σ H Q z)⟩
theorem PT.imp {X : Cx} {e : Expr} {t t' : TT} (h : PT X e t) (i : ∀ σ H Q, t' σ H Q → t σ H Q) : PT X e t' := ⟨fun pins s σ H Q I z => h.run pins s σ H Q I (i σ H Q z)⟩
theorem PW.imp {X : Cx} {e : Expr} {t t' : TT} (h : PW X e t) (i : ∀ σ H Q, t' σ H Q → t σ H Q) : PW X e t' := ⟨fun wh pins s σ H Q I z => h.run wh pins s σ H Q I (i σ H Q z)⟩
theorem PS.imp {X : Cx} {e : Stmt} {t t' : TS} (h : PS X e t) (i : ∀ D σ H, t' D σ H → t D σ H) : PS X e t' := ⟨fun pins s σ H D I z => h.run pins s σ H D I (i D σ H z)⟩
theorem PSs.imp {X : Cx} {e : List Stmt} {t t' : TS} (h : PSs X e t) (i : ∀ D σ H, t' D σ H → t D σ H) : PSs X e t' := ⟨fun pins s σ H D I z => h.run pins s σ H D I (i D σ H z)⟩
abbrev DE (T : List (Addr × Str)) (X : Cx) (e : Expr) (f : DTE) : Prop := PE X e (lift T X.K f)
abbrev DA (T : List (Addr × Str)) (X : Cx) (e : List Expr) (f : DTA) : Prop := PA X e (liftA T X.K f)
abbrev DT (T : List (Addr × Str)) (X : Cx) (e : Expr) (f : DTT) : Prop := PT X e (liftT T X.K f)
abbrev DW (T : List (Addr × Str)) (X : Cx) (e : Expr) (f : DTT) : Prop := PW X e (liftT T X.K f)

def onI (d : D) (k : Int → Prop) : Prop := match d with | .int i => k i | _ => False
def onB (d : D) (k : Bool → Prop) : Prop := match d with | .bl i => k i | _ => False
def onO {α : Type} (o : Option α) (k : α → Prop) : Prop := match o with | some d => k d | none => False
def onOO (o : Option (Option D)) (k : D → Prop) : Prop := match o with | some (some d) => k d | _ => False
theorem onI.of {d : D} {k : Int → Prop} (h : onI d k) : ∃ i, d = .int i ∧ k i := by
  cases d with
  | int i => exact ⟨i, rfl, h⟩
  | _ => exact h.elim
theorem onB.of {d : D} {k : Bool → Prop} (h : onB d k) : ∃ i, d = .bl i ∧ k i := by
  cases d with
  | bl i => exact ⟨i, rfl, h⟩
  | _ => exact h.elim
theorem onO.of {α : Type} {d : Option α} {k : α → Prop} (h : onO d k) : ∃ i, d = some i ∧ k i := by
  cases d with
  | some i => exact ⟨i, rfl, h⟩
  | none => exact h.elim
theorem onOO.of {d : Option (Option D)} {k : D → Prop} (h : onOO d k) : ∃ i, d = some (some i) ∧ k i := by
  cases d with
  | none => exact h.elim
  | some o => cases o with
    | none => exact h.elim
    | some i => exact ⟨i, rfl, h⟩
def seqS (st : DSt) : D → Option (List D)
  | .tup ds => some ds
  | .tuk ds => some ds
  | .lst ds => some ds
  | .scr ds => some ds
  | .ref n => match st[n]? with | some (.lst ds) => some ds | _ => none
  | _ => none
section
variable {T : List (Addr × Str)} {K : Frag} {M : Pl} {H : Hp} {st : DSt}
theorem RVs.length : ∀ {ds : List D} {vs : List V}, RVs K M H ds vs → ds.length = vs.length
  | _, _, .nil => rfl
  | _, _, .cons _ t => by rw [List.length_cons, List.length_cons, RVs.length t]
theorem RVs.get : ∀ {ds : List D} {vs : List V}, RVs K M H ds vs → ∀ {i : Nat} {d : D}, ds[i]? = some d → ∃ v, vs[i]? = some v ∧ RV K M H d v
  | _, _, .nil, i, d, e => by simp at e
  | _, _, .cons h t, 0, d, e => by
    simp at e
    subst e
    exact ⟨_, rfl, h⟩
  | _, _, .cons h t, i + 1, d, e => by
    obtain ⟨v, e1, e2⟩ := RVs.get t (i := i) (d := d) (by simpa using e)
    exact ⟨v, by simpa using e1, e2⟩
theorem RVs.append : ∀ {ds es : List D} {vs ws : List V}, RVs K M H ds vs → RVs K M H es ws → RVs K M H (ds ++ es) (vs ++ ws)
  | _, _, _, _, .nil, s => s
  | _, _, _, _, .cons h t, s => .cons h (RVs.append t s)
theorem RVs.take : ∀ {ds : List D} {vs : List V} (n : Nat), RVs K M H ds vs → RVs K M H (ds.take n) (vs.take n)
  | _, _, 0, _ => .nil
  | _, _, _ + 1, .nil => .nil
  | _, _, n + 1, .cons h t => .cons h (RVs.take n t)
theorem RVs.drop : ∀ {ds : List D} {vs : List V} (n : Nat), RVs K M H ds vs → RVs K M H (ds.drop n) (vs.drop n)
  | _, _, 0, h => h
  | _, _, _ + 1, .nil => .nil
  | _, _, n + 1, .cons _ t => RVs.drop n t
theorem RVs.set {d : D} {v : V} (h : RV K M H d v) : ∀ {ds : List D} {vs : List V} (n : Nat), RVs K M H ds vs → RVs K M H (ds.set n d) (vs.set n v)
  | _, _, _, .nil => .nil
  | _, _, 0, .cons _ t => .cons h t
  | _, _, n + 1, .cons q t => .cons q (RVs.set h n t)
theorem RVs.eraseIdx : ∀ {ds : List D} {vs : List V} (n : Nat), RVs K M H ds vs → RVs K M H (ds.eraseIdx n) (vs.eraseIdx n)
  | _, _, _, .nil => .nil
  | _, _, 0, .cons _ t => t
  | _, _, n + 1, .cons q t => .cons q (RVs.eraseIdx n t)
theorem RVs.ints : ∀ {ns : List Int} {vs : List V}, RVs K M H (ns.map D.int) vs → vs = ns.map V.int
  | [], _, .nil => rfl
  | n :: ns, _, .cons (.int _) t => by rw [RVs.ints t]; rfl
theorem RVs.of_ints : ∀ ns : List Int, RVs K M H (ns.map D.int) (ns.map V.int)
  | [] => .nil
  | n :: ns => .cons (.int n) (RVs.of_ints ns)
theorem RVs.bls : ∀ {ns : List Bool} {vs : List V}, RVs K M H (ns.map D.bl) vs → vs = ns.map V.bl
  | [], _, .nil => rfl
  | n :: ns, _, .cons (.bl _) t => by rw [RVs.bls t]; rfl
theorem RVs.nil_iff {ds : List D} {vs : List V} (r : RVs K M H ds vs) : ds = [] ↔ vs = [] := by
  cases r with
  | nil => simp
  | cons _ _ => simp
theorem seqS.rd {d : D} {v : V} {ds : List D} (s : RS T K M st H) (r : RV K M H d v) (e : seqS st d = some ds) : ∃ a xs, v = .ref a ∧ (SqL K H a xs ∨ SqT K H a xs) ∧ RVs K M H ds xs := by
  cases r with
  | tup n h q rs => cases e; exact ⟨_, _, rfl, .inr (.inl (.inr ⟨_, h⟩)), rs⟩
  | tuk n h rs => cases e; exact ⟨_, _, rfl, .inr (.inl (.inl h)), rs⟩
  | lst n h rs => cases e; exact ⟨_, _, rfl, .inl (.inl (.inl h)), rs⟩
  | scr n h rs => cases e; exact ⟨_, _, rfl, .inl (.inl h), rs⟩
  | lsk h rs => cases e; exact ⟨_, _, rfl, .inl (h H), rs⟩
  | ref h =>
    obtain ⟨o, e1, ro⟩ := s.atM h
    unfold seqS at e
    simp only [e1] at e
    cases o with
    | lst xs => cases e; obtain ⟨ys, q, rs⟩ := ro; exact ⟨_, ys, rfl, .inl (.inl (.inl q)), rs⟩
    | dK _ => cases e
    | dT _ => cases e
    | lk _ _ _ => cases e
  | _ => cases e
end
def dVar (i : Nat) : DTE := fun r st Q => onOO r[i]? fun d => Q d st
def dC (d : D) : DTE := fun _ st Q => Q d st
section
variable {T : List (Addr × Str)} {X : Cx}
theorem de_var {i : Nat} {e : Expr} (h : PE X e (tVar i)) : DE T X e (dVar i) := PE.imp h fun σ H Q ⟨M, r, st, Q', s, re, hf, k⟩ => by
  obtain ⟨d, e, q⟩ := onOO.of hf
  obtain ⟨v, e1, rv⟩ := re.at_ i d e
  exact ⟨v, e1, k.here s rv q⟩
theorem de_const {e : Expr} {d : D} {v : V} (h : PE X e (tC v)) (r : ∀ M H, RV X.K M H d v) : DE T X e (dC d) := PE.imp h fun σ H Q ⟨M, rr, st, Q', s, re, hf, k⟩ => k.here s (r M H) hf
theorem de_int {i j pos} : DE T X (.Constant (.int i) j pos) (dC (.int i)) := de_const pe_int fun _ _ => .int i
theorem de_bl {i j pos} : DE T X (.Constant (.bool i) j pos) (dC (.bl i)) := de_const pe_bl fun _ _ => .bl i
theorem de_non {j pos} : DE T X (.Constant .none j pos) (dC .non) := de_const pe_non fun _ _ => .non
theorem de_globI {x : Str} {i : Int} {u : Value} {pos : Pos} (hg : Gl X x) (hm : X.mg x = some u) (r : RelV (.int i) u) (hd : (x == ("__debug__" : Str)) = false := by decide) : DE T X (.Name x pos) (dC (.int i)) :=
  de_const (pe_glob hg hm r hd) fun _ _ => .int i
end
def OpD (T : List (Addr × Str)) (K : Frag) (r : R2) (r' : DR2) : Prop := ∀ (M : Pl) (H : Hp) (st : DSt) (x y : D) (vx vy : V) (Q' : DK) (Q : VK), RS T K M st H → RV K M H x vx → RV K M H y vy → r' x y st Q' → Kn T K M H Q' Q → r vx vy H Q
def dOp (r : DR2) (fa fb : DTE) : DTE := fun ρ st Q => fa ρ st fun x st1 => fb ρ st1 fun y st2 => r x y st2 Q
theorem lift2 {T : List (Addr × Str)} {K : Frag} {r : R2} {r' : DR2} {fa fb : DTE} (o : OpD T K r r') {σ : L2.St} {H : Hp} {Q : VK} (h : lift T K (dOp r' fa fb) σ H Q) : tOp r (lift T K fa) (lift T K fb) σ H Q := by
  obtain ⟨M, ρ, st, Q', s, re, hf, k⟩ := h
  refine ⟨M, ρ, st, _, s, re, hf, fun M1 H1 st1 x vx g1 s1 r1 h1 => ⟨M1, ρ, st1, _, s1, re.grow g1, h1, fun M2 H2 st2 y vy g2 s2 r2 h2 => ?_⟩⟩
  exact o M2 H2 st2 x y vx vy Q' Q s2 (r1.grow g2) r2 h2 (k.grow (g1.trans g2))
section
variable {T : List (Addr × Str)} {X : Cx} {a b c : Expr} {fa fb fc : DTE} {pos : Pos}
theorem de_op {op : Operator} {r : R2} {r' : DR2} (ho : OpR X (binaryOp op) r) (hd : OpD T X.K r r') (ha : DE T X a fa) (hb : DE T X b fb) : DE T X (.BinOp a op b pos) (dOp r' fa fb) :=
  PE.imp (pe_op ho ha hb) fun _ _ _ h => lift2 hd h
theorem de_cmp {op : CmpOp} {r : R2} {r' : DR2} (ho : OpR X (compareOp op) r) (hd : OpD T X.K r r') (ha : DE T X a fa) (hb : DE T X b fb) (hm : behindInMarks op b = false) : DE T X (.Compare a [op] [b] pos) (dOp r' fa fb) :=
  PE.imp (pe_cmpR ho ha hb hm) fun _ _ _ h => lift2 hd h
def dI (C : Int → Int → Prop) (g : Int → Int → D) : DR2 := fun x y st Q => onI x fun i => onI y fun j => C i j ∧ Q (g i j) st
def dI0 (g : Int → Int → D) : DR2 := fun x y st Q => onI x fun i => onI y fun j => Q (g i j) st
theorem opD_I {T : List (Addr × Str)} {K : Frag} {C : Int → Int → Prop} {g : Int → Int → D} {gv : Int → Int → V} (hg : ∀ i j M H, RV K M H (g i j) (gv i j)) : OpD T K (rI C gv) (dI C g) := by
  intro M H st x y vx vy Q' Q s rx ry h k
  obtain ⟨i, rfl, h1⟩ := onI.of h
  obtain ⟨j, rfl, c, h2⟩ := onI.of h1
  cases rx
  cases ry
  exact ⟨i, j, rfl, rfl, c, k.here s (hg i j M H) h2⟩
theorem opD_I0 {T : List (Addr × Str)} {K : Frag} {g : Int → Int → D} {gv : Int → Int → V} (hg : ∀ i j M H, RV K M H (g i j) (gv i j)) : OpD T K (rI0 gv) (dI0 g) := by
  intro M H st x y vx vy Q' Q s rx ry h k
  obtain ⟨i, rfl, h1⟩ := onI.of h
  obtain ⟨j, rfl, h2⟩ := onI.of h1
  cases rx
  cases ry
  exact ⟨i, j, rfl, rfl, k.here s (hg i j M H) h2⟩
abbrev dSub : DR2 := dI0 fun i j => .int (i - j)
abbrev dMod : DR2 := dI (fun _ j => 0 < j) fun i j => .int (i % j)
abbrev dDiv : DR2 := dI CDiv fun i j => .int (i / j)
abbrev dPow : DR2 := dI (fun i j => 0 ≤ j ∧ (Builtin.Int.intBits i : Int) * j ≤ 2 ^ 27) fun i j => .int (i ^ j.toNat)
theorem de_sub (ha : DE T X a fa) (hb : DE T X b fb) : DE T X (.BinOp a .Sub b pos) (dOp dSub fa fb) := de_op op_sub (opD_I0 fun _ _ _ _ => .int _) ha hb
theorem de_mod (ha : DE T X a fa) (hb : DE T X b fb) : DE T X (.BinOp a .Mod b pos) (dOp dMod fa fb) := de_op op_mod (opD_I fun _ _ _ _ => .int _) ha hb
theorem de_div (ha : DE T X a fa) (hb : DE T X b fb) : DE T X (.BinOp a .FloorDiv b pos) (dOp dDiv fa fb) := de_op op_fdiv (opD_I fun _ _ _ _ => .int _) ha hb
theorem de_pow (ha : DE T X a fa) (hb : DE T X b fb) : DE T X (.BinOp a .Pow b pos) (dOp dPow fa fb) := de_op op_powB (opD_I fun _ _ _ _ => .int _) ha hb
abbrev dGt : DR2 := dI0 fun i j => .bl (decide (j < i))
abbrev dGe : DR2 := dI0 fun i j => .bl (decide (j ≤ i))
def dNeg (fa : DTE) : DTE := fun r st Q => fa r st fun x st1 => onI x fun i => Q (.int (-i)) st1
theorem de_neg (ha : DE T X a fa) : DE T X (.UnaryOp .USub a pos) (dNeg fa) := PE.imp (pe_un un_neg ha) fun σ H Q ⟨M, ρ, st, Q', s, re, hf, k⟩ =>
  ⟨M, ρ, st, _, s, re, hf, fun M1 H1 st1 x vx g1 s1 r1 h1 => by
    obtain ⟨i, rfl, h⟩ := onI.of h1
    cases r1
    exact ⟨i, rfl, (k.grow g1).here s1 (.int _) h⟩⟩
def isNon : D → Bool
  | .non => true
  | _ => false
theorem RV.isNon {K : Frag} {M : Pl} {H : Hp} {d : D} {v : V} (r : RV K M H d v) : decide (v = V.non) = isNon d := by cases r <;> first | rfl | simp [DL.isNon]
def dIsN (fa : DTE) : DTE := fun r st Q => fa r st fun x st1 => Q (.bl (isNon x)) st1
def dNotN (fa : DTE) : DTE := fun r st Q => fa r st fun x st1 => Q (.bl (!isNon x)) st1
theorem lift_notN {K : Frag} {σ : L2.St} {H : Hp} {Q : VK} (h : lift T K (dNotN fa) σ H Q) : tNotN (lift T K fa) σ H Q := by
  obtain ⟨M, ρ, st, Q', s, re, hf, k⟩ := h
  refine ⟨M, ρ, st, _, s, re, hf, fun M1 H1 st1 x vx g1 s1 r1 h1 => ?_⟩
  show Q (.bl (!decide (vx = V.non))) H1
  rw [r1.isNon]
  exact (k.grow g1).here s1 (.bl _) h1
def dAndV (fa fb : DTE) : DTE := fun r st Q => fa r st fun x st1 => onB x fun c => if c = true then fb r st1 Q else Q (.bl false) st1
def dOrV (fa fb : DTE) : DTE := fun r st Q => fa r st fun x st1 => onB x fun c => if c = true then Q (.bl true) st1 else fb r st1 Q
def dNotV (fa : DTE) : DTE := fun r st Q => fa r st fun x st1 => onB x fun c => Q (.bl (!c)) st1
def dTest (fa : DTE) : DTT := fun r st Q => fa r st fun x st1 => onB x fun c => Q c st1
theorem liftT_test {T : List (Addr × Str)} {K : Frag} {fa : DTE} {σ : L2.St} {H : Hp} {Q : Bool → Hp → Prop} (h : liftT T K (dTest fa) σ H Q) : tB (lift T K fa) σ H Q := by
  obtain ⟨M, ρ, st, Q', s, re, hf, k⟩ := h
  refine ⟨M, ρ, st, _, s, re, hf, fun M1 H1 st1 x vx g1 s1 r1 h1 => ?_⟩
  obtain ⟨c, rfl, h⟩ := onB.of h1
  cases r1
  exact ⟨c, rfl, k M1 H1 st1 c g1 s1 h⟩
theorem dt_val (h : DE T X a fa) (he : ∀ whole, isTrue a X.env whole = (do let v ← whole; standAt a.pos; holding [v] (truthy v)) := by intro _; rfl) : DT T X a (dTest fa) := PT.imp (pt_val h he) fun _ _ _ z => liftT_test z
theorem dt_cmpR {op : CmpOp} {r : R2} {r' : DR2} (ho : OpR X (compareOp op) r) (hd : OpD T X.K r r') (ha : DE T X a fa) (hb : DE T X b fb) (hm : behindInMarks op b = false) : DT T X (.Compare a [op] [b] pos) (dTest (dOp r' fa fb)) :=
  PT.imp (pt_cmpR ho ha hb hm) fun σ H Q z => by
    obtain ⟨M, ρ, st, Q', s, re, hf, k⟩ := z
    have z2 : lift T X.K (dOp r' fa fb) σ H (fun x H' => ∃ c, x = .bl c ∧ Q c H') := ⟨M, ρ, st, _, s, re, hf, fun M1 H1 st1 x vx g1 s1 r1 h1 => by
      obtain ⟨c, rfl, h⟩ := onB.of h1
      cases r1
      exact ⟨c, rfl, k M1 H1 st1 c g1 s1 h⟩⟩
    exact lift2 hd z2
theorem dt_cmp {op : CmpOp} {t : TE} {f : DTE} (h : PC X op a b t) (i : ∀ σ H Q, lift T X.K f σ H Q → t σ H Q) (h1 : behindInMarks op b = false := by first | exact nobehind _ (by decide) (by decide) | rfl) : DT T X (.Compare a [op] [b] pos) (dTest f) :=
  PT.imp (pt_cmp h h1) fun σ H Q z => by
    obtain ⟨M, ρ, st, Q', s, re, hf, k⟩ := z
    exact i σ H (fun x H' => ∃ c, x = .bl c ∧ Q c H') ⟨M, ρ, st, _, s, re, hf, fun M1 H1 st1 x vx g1 s1 r1 h1 => by
      obtain ⟨c, rfl, h⟩ := onB.of h1
      cases r1
      exact ⟨c, rfl, k M1 H1 st1 c g1 s1 h⟩⟩
theorem dt_notN {j pos'} (ha : DE T X a fa) : DT T X (.Compare a [.IsNot] [.Constant .none j pos'] pos) (dTest (dNotN fa)) := dt_cmp (pc_notN ha) fun _ _ _ h => lift_notN h
def dtAnd (t u : DTT) : DTT := fun r st Q => t r st fun c st1 => if c = true then u r st1 Q else Q false st1
def dtOr (t u : DTT) : DTT := fun r st Q => t r st fun c st1 => if c = true then Q true st1 else u r st1 Q
def dtNot (t : DTT) : DTT := fun r st Q => t r st fun c st1 => Q (!c) st1
variable {tA tB' : DTT}
theorem dw_and1 (ha : DT T X a tA) : DW T X (.BoolOp .And [a] pos) tA := pw_and1 ha
theorem dw_or1 (ha : DT T X a tA) : DW T X (.BoolOp .Or [a] pos) tA := pw_or1 ha
theorem dw_and {rest : List Expr} (ha : DT T X a tA) (hb : DW T X (.BoolOp .And (b :: rest) pos) tB') : DW T X (.BoolOp .And (a :: b :: rest) pos) (dtAnd tA tB') := PW.imp (pw_and ha hb) fun σ H Q ⟨M, ρ, st, Q', s, re, hf, k⟩ =>
  ⟨M, ρ, st, _, s, re, hf, fun M1 H1 st1 c g1 s1 h => by
    cases c with
    | true => rw [if_pos rfl] at h ⊢; exact ⟨M1, ρ, st1, _, s1, re.grow g1, h, fun M2 H2 st2 b g2 s2 q => k M2 H2 st2 b (g1.trans g2) s2 q⟩
    | false => rw [if_neg (by decide)] at h ⊢; exact k M1 H1 st1 false g1 s1 h⟩
theorem dw_or {rest : List Expr} (ha : DT T X a tA) (hb : DW T X (.BoolOp .Or (b :: rest) pos) tB') : DW T X (.BoolOp .Or (a :: b :: rest) pos) (dtOr tA tB') := PW.imp (pw_or ha hb) fun σ H Q ⟨M, ρ, st, Q', s, re, hf, k⟩ =>
  ⟨M, ρ, st, _, s, re, hf, fun M1 H1 st1 c g1 s1 h => by
    cases c with
    | true => rw [if_pos rfl] at h ⊢; exact k M1 H1 st1 true g1 s1 h
    | false => rw [if_neg (by decide)] at h ⊢; exact ⟨M1, ρ, st1, _, s1, re.grow g1, h, fun M2 H2 st2 b g2 s2 q => k M2 H2 st2 b (g1.trans g2) s2 q⟩⟩
theorem dt_not (ha : DT T X a tA) : DT T X (.UnaryOp .Not a pos) (dtNot tA) := PT.imp (pt_not ha) fun σ H Q ⟨M, ρ, st, Q', s, re, hf, k⟩ =>
  ⟨M, ρ, st, _, s, re, hf, fun M1 H1 st1 c g1 s1 h => k M1 H1 st1 _ g1 s1 h⟩
def dIf (t : DTT) (fa fb : DTE) : DTE := fun r st Q => t r st fun c st1 => if c = true then fa r st1 Q else fb r st1 Q
theorem de_if (hc : DT T X c tA) (ha : DE T X a fa) (hb : DE T X b fb) : DE T X (.IfExp c a b pos) (dIf tA fa fb) := PE.imp (pe_ifExp hc ha hb) fun σ H Q ⟨M, ρ, st, Q', s, re, hf, k⟩ =>
  ⟨M, ρ, st, _, s, re, hf, fun M1 H1 st1 c g1 s1 h => by
    cases c with
    | true => rw [if_pos rfl] at h ⊢; exact ⟨M1, ρ, st1, _, s1, re.grow g1, h, k.grow g1⟩
    | false => rw [if_neg (by decide)] at h ⊢; exact ⟨M1, ρ, st1, _, s1, re.grow g1, h, k.grow g1⟩⟩
def daNil : DTA := fun _ st Q => Q [] st
def daCons (f : DTE) (g : DTA) : DTA := fun r st Q => f r st fun d st1 => g r st1 fun ds st2 => Q (d :: ds) st2
theorem da_nil : DA T X [] daNil := PA.imp pa_nil fun σ H Q ⟨M, ρ, st, Q', s, re, hf, k⟩ => k M H st [] [] (Grow.refl M H) s .nil hf
theorem da_cons {e : Expr} {es : List Expr} {f : DTE} {g : DTA} (ha : DE T X e f) (hr : DA T X es g) (hs : starEach (e :: es) X.env = (false, eval e X.env) :: starEach es X.env := by rfl) : DA T X (e :: es) (daCons f g) :=
  PA.imp (pa_cons ha hr hs) fun σ H Q ⟨M, ρ, st, Q', s, re, hf, k⟩ =>
    ⟨M, ρ, st, _, s, re, hf, fun M1 H1 st1 x vx g1 s1 r1 h1 => ⟨M1, ρ, st1, _, s1, re.grow g1, h1, fun M2 H2 st2 ds vs g2 s2 r2 h2 => k M2 H2 st2 _ _ (g1.trans g2) s2 (.cons (r1.grow g2) r2) h2⟩⟩
end
end DL
namespace DL
open PySem PySem.Spec PyProof.Rows L2 LamX PySem.W SL
theorem vals1 {x : V} {us : List Value} (r : Vals [x] us) : ∃ u, us = [u] ∧ RelV x u := Vals.one r
theorem flat_ints : ∀ ns : List Int, (ns.map V.int).all flatV = true
  | [] => rfl
  | n :: ns => by rw [List.map_cons, List.all_cons, flat_ints ns]; rfl
def FzT (H : Hp) (a : Addr) (xs : List V) : Prop := ∃ o : Obj, H a = some (.frz o (.tup xs)) ∧ o.dict = none
theorem FzT.sq {K : PySem.W.Frag} {H : Hp} {a : Addr} {xs : List V} (h : FzT H a xs) : SqT K H a xs := by
  obtain ⟨o, e, _⟩ := h
  exact Or.inl (Or.inr ⟨o, e⟩)
theorem FzT.same {H H' : Hp} {a : Addr} {xs : List V} (h : FzT H a xs) (s : Same H H') : FzT H' a xs := by
  obtain ⟨o, e, d⟩ := h
  exact ⟨o, s _ _ e, d⟩
def rTupF (K : PySem.W.Frag) : List V → Hp → VK → Prop := fun xs H Q => ∃ p ys, xs = [.ref p] ∧ SqL K H p ys ∧ ∀ (l : Addr) (o : Obj), H l = none → o.dict = none → Q (.ref l) (upd H l (.frz o (.tup ys)))
theorem call_tupF {X : Cx} : CallR X (.type "tuple") (rTupF X.K) := by
  intro pins s σ H xs us Q I r h
  obtain ⟨p, ys, rfl, sq, q⟩ := h
  obtain ⟨u, rfl, rx⟩ := vals1 r
  cases rx
  obtain ⟨its, rv, pl, few⟩ := I.list sq
  have len := rv.length
  refine call_tuple_list pl.isList (fun g kp => ?_) (by rw [List.size_toArray]; omega)
  have I1 : Inv X pins σ H { s with heap := g } := I.kept (t' := s.toks) kp
  have new : (g.push { cls := .type "tuple", data := .seq its.toArray }).get? g.objs.size = some { cls := .type "tuple", data := .seq its.toArray } := Heap.get?_push_size _ rfl
  exact ⟨.ref g.objs.size, _, I1.laid (t' := s.toks) (o := .frz { cls := .type "tuple", data := .seq its.toArray } (.tup ys)) (fun b o e => Heap.get?_push_of_some _ e) (Nat.le_refl _) ⟨new, few, its, rv, _, new, rfl, _, rfl⟩, rfl, q _ _ (I1.hok.fresh (Nat.le_refl _)) rfl⟩
def rIndexT (K : PySem.W.Frag) : V → List V → Hp → VK → Prop := fun x xs H Q => ∃ (p : Addr) (ns : List Int) (z : Int) (j : Nat), x = .ref p ∧ xs = [.int z] ∧ SqT K H p (ns.map V.int) ∧ ns[j]? = some z ∧ (∀ m, m < j → ns[m]? ≠ some z) ∧ Q (.int (j : Nat)) H
theorem mt_tup_indexI {X : Cx} : MtR X "tuple.index" (rIndexT X.K) := by
  intro pins s σ H x xs v us Q I rx rs h
  obtain ⟨p, ns, z, j, rfl, rfl, sq, hj, no, q⟩ := h
  cases rx
  obtain ⟨u, rfl, t, rfl⟩ := vals1 rs
  obtain ⟨its, r, ⟨⟨cls, dd, dt, sl⟩, ho, hc, n, hd⟩, hz⟩ := I.tuple sq
  simp only at hc hd
  subst hc
  subst hd
  have len : its.toArray.size = ns.length := by rw [List.size_toArray, ← r.length, List.length_map]
  have lj : j < its.toArray.size := by rw [len]; exact (List.getElem?_eq_some_iff.mp hj).1
  have item : ∀ (m : Nat) (lm : m < its.toArray.size), ∃ i t', ns[m]? = some i ∧ its.toArray[m] = Value.int i t' := by
    intro m lm
    have lm' : m < ns.length := by omega
    obtain ⟨u, hu, t', e⟩ := r.get (i := m) (x := .int ns[m]) (by simp [lm'])
    refine ⟨ns[m], t', List.getElem?_eq_getElem lm', ?_⟩
    rw [← e, ← (List.getElem?_eq_some_iff.mp hu).2]
    simp
  refine call_meets PySem.F.slot_tuple_index ⟨_, ho, rfl⟩ PySem.F.entry_tuple_index (PySem.F.args_tuple_index_2 _ _) (TI.tuple_indexAt p its.toArray n dd sl (.int z t) (eqU (.int z)) j lj ?_ ?_)
    ⟨ho, fun y hy => mem_eqAt (x := .int z) ⟨t, rfl⟩ rfl r (flat_ints ns) y (by simpa using hy), ⟨.int (j : Nat), H, I.tok _, ⟨_, rfl⟩, q⟩⟩
  · obtain ⟨i, t', h1, h2⟩ := item j lj
    rw [hj] at h1
    cases h1
    rw [h2]
    show (z == z) = true
    exact beq_self_eq_true z
  · intro m lm lt
    obtain ⟨i, t', h1, h2⟩ := item m lm
    rw [h2]
    show (i == z) = false
    refine beq_eq_false_iff_ne.mpr fun e => ?_
    rw [e] at h1
    exact no m lt h1

def rCatF (K : Frag) : R2 := fun x y H Q => ∃ a b xs ys, x = .ref a ∧ y = .ref b ∧ SqT K H a xs ∧ SqT K H b ys ∧ xs.length + ys.length ≤ sizeLine ∧
  (xs = [] → Q (.ref b) H) ∧ (xs ≠ [] → ys = [] → Q (.ref a) H) ∧ (xs ≠ [] → ys ≠ [] → ∀ (p : Addr) (ob : Obj), H p = none → ob.dict = none → Q (.ref p) (upd H p (.frz ob (.tup (xs ++ ys)))))
theorem op_catF {X : Cx} : OpR X (binaryOp .Add) (rCatF X.K) := by
  intro pins s σ H x y v u Q I rx ry h
  obtain ⟨a, b, xs, ys, rfl, rfl, ha, hb, hz, q0, q1, q2⟩ := h
  cases rx
  cases ry
  obtain ⟨its, r1, p1, _⟩ := I.tuple ha
  obtain ⟨its2, r2, p2, _⟩ := I.tuple hb
  by_cases e : xs = []
  · have e' := r1.nil_iff.mpr e
    subst e'
    exact cat_tup0 p1 p2 ⟨.ref b, H, I, rfl, q0 e⟩
  · refine HT.cat_tup p1 p2 (fun z => e (r1.nil_iff.mp z)) (fun z => ⟨.ref a, H, I, rfl, q1 e (r2.nil_iff.mp z)⟩) (fun z => ?_) (by rw [← r1.length, ← r2.length]; exact hz)
    refine ⟨.ref s.heap.objs.size, _, I.laid (t' := s.toks) (o := .frz { cls := .type "tuple", data := .seq (its ++ its2).toArray } (.tup (xs ++ ys))) (fun b ob q => Heap.get?_push_of_some _ q) (Nat.le_refl _) ?_, rfl, q2 e (fun w => z (r2.nil_iff.mpr w)) _ _ (I.hok.fresh (Nat.le_refl _)) rfl⟩
    exact ⟨Heap.get?_push_size _ rfl, by rw [List.length_append]; exact hz, _, r1.append r2, IsTup.new _ _⟩
def rSlF (K : Frag) : V → Option Int → Option Int → Hp → VK → Prop := fun x lo hi H Q => ∃ a xs, x = .ref a ∧ SqT K H a xs ∧
  (HT.sIx xs.length 0 lo = 0 ∧ HT.sIx xs.length xs.length hi = xs.length → Q (.ref a) H) ∧ (¬ (HT.sIx xs.length 0 lo = 0 ∧ HT.sIx xs.length xs.length hi = xs.length) → ∀ (p : Addr) (ob : Obj), H p = none → ob.dict = none → Q (.ref p) (upd H p (.frz ob (.tup (cutV xs lo hi)))))
theorem sl_F {X : Cx} : SlR X (rSlF X.K) := by
  intro pins s σ H x v vl vu lo hi sl Q I rx hs pl pu h
  obtain ⟨a, xs, rfl, hx, qw, q⟩ := h
  cases rx
  obtain ⟨its, r, ht, hz⟩ := I.tuple hx
  have hlen : its.toArray.size = xs.length := by rw [List.size_toArray]; exact r.length.symm
  refine ⟨"tuple", _, PyProof.Rows.slot_tuple_getitem.lookup, ht.typeIs, ?_⟩
  by_cases hw : HT.sIx xs.length 0 lo = 0 ∧ HT.sIx xs.length xs.length hi = xs.length
  · exact getItem_tuple_whole ht hs pl pu (by rw [hlen]; exact hw) ⟨.ref a, H, I, rfl, qw hw⟩
  · refine HT.getItem_tuple_cut ht hs pl pu (by rw [hlen]; exact hw) ?_ (by rw [hlen]; exact hz)
    rw [hlen]
    refine ⟨.ref s.heap.objs.size, _, I.laid (t' := s.toks) (o := .frz { cls := .type "tuple", data := .seq ((its.drop (HT.sIx xs.length 0 lo)).take (HT.sIx xs.length xs.length hi - HT.sIx xs.length 0 lo)).toArray } (.tup (cutV xs lo hi))) (fun b ob q => Heap.get?_push_of_some _ q) (Nat.le_refl _) ?_, rfl, q hw _ _ (I.hok.fresh (Nat.le_refl _)) rfl⟩
    exact ⟨Heap.get?_push_size _ rfl, Nat.le_trans (cutV_length xs lo hi) hz, _, (r.drop (HT.sIx xs.length 0 lo)).take (HT.sIx xs.length xs.length hi - HT.sIx xs.length 0 lo), IsTup.new _ _⟩
end DL
namespace DL
open PySem PySem.Spec PyProof.Rows L2 LamX PySem.W SL
def okLen (ds : List D) (P : Prop) : Prop := match ds with
  | [] => P
  | [_] => P
  | [_, _] => P
  | [_, _, _] => P
  | [_, _, _, _] => P
  | [_, _, _, _, _] => P
  | _ => ds.length ≤ sizeLine ∧ P
theorem okLen.of {ds : List D} {P : Prop} (h : okLen ds P) : ds.length ≤ sizeLine ∧ P := by
  unfold okLen at h
  split at h <;> first | exact h | exact ⟨Nat.le_of_lt (small1000 (by simp)), h⟩
section
variable {T : List (Addr × Str)} {K : Frag} {M : Pl} {H : Hp} {st : DSt} {ds : List D} {xs : List V} {Q' : DK} {Q : VK} {p : Addr}
theorem Kn.tup {ob : Obj} (k : Kn T K M H Q' Q) (s : RS T K M st H) (r : RVs K M H ds xs) (np : H p = none) (hd : ob.dict = none) (q : Q' (.tup ds) st) : Q (.ref p) (upd H p (.frz ob (.tup xs))) :=
  k M _ st _ _ (Grow.new s.hid np) (s.new np) (.tup (s.notin np) upd_same hd (r.grow (Grow.new s.hid np))) q
theorem Kn.tuk (k : Kn T K M H Q' Q) (s : RS T K M st H) (r : RVs K M H ds xs) (np : H p = none) (q : Q' (.tuk ds) st) : Q (.ref p) (upd H p (.tup xs)) :=
  k M _ st _ _ (Grow.new s.hid np) (s.new np) (.tuk (s.notin np) upd_same (r.grow (Grow.new s.hid np))) q
theorem Kn.lst (k : Kn T K M H Q' Q) (s : RS T K M st H) (r : RVs K M H ds xs) (np : H p = none) (q : Q' (.lst ds) st) : Q (.ref p) (upd H p (.lst xs)) :=
  k M _ st _ _ (Grow.new s.hid np) (s.new np) (.lst (s.notin np) upd_same (r.grow (Grow.new s.hid np))) q
theorem Kn.own (k : Kn T K M H Q' Q) (s : RS T K M st H) (r : RVs K M H ds xs) (np : H p = none) (q : Q' (.ref st.length) (st ++ [.lst ds])) : Q (.ref p) (upd H p (.lst xs)) :=
  k (M.app [p]) _ (st ++ [.lst ds]) _ _ (Grow.place s.hid np) (s.place (u := .lst ds) np ⟨xs, upd_same, r.grow (Grow.place s.hid np)⟩) (.ref (by unfold Pl.at_; show (M.m ++ [p])[M.h + st.length]? = some p; rw [← s.len]; simp)) q
end
section
variable {T : List (Addr × Str)} {X : Cx} {a b c : Expr} {es : List Expr} {fa fb fc : DTE} {fs : DTA} {pos : Pos}
def tTupF (t : TA) : TE := fun σ H Q => t σ H fun xs H1 => xs.length ≤ sizeLine ∧ ∀ (p : Addr) (ob : Obj), H1 p = none → ob.dict = none → Q (.ref p) (upd H1 p (.frz ob (.tup xs)))
theorem pe_tupF {t : TA} {x1} (h : PA X es t) : PE X (.Tuple es x1 pos) (tTupF t) := by
  refine ⟨fun pins s σ H Q I hq => ?_⟩
  refine wpAny_Tuple_spliced (thn (h.run pos pins s σ H _ I hq) fun us s1 ⟨xs, H1, I1, r, z, q⟩ => ⟨by rw [← r.length]; exact z, ?_⟩)
  have hf : H1 s1.heap.objs.size = none := I1.hok.fresh (Nat.le_refl _)
  refine ⟨.ref s1.heap.objs.size, _, I1.laid (t' := s1.toks) (o := .frz { cls := .type "tuple", data := .seq us.toArray } (.tup xs)) (fun b u e => Heap.get?_push_of_some _ e) (Nat.le_refl _) ?_, rfl, q _ _ hf rfl⟩
  exact ⟨Heap.get?_push_size _ rfl, z, us, r, ⟨_, Heap.get?_push_size _ rfl, rfl, _, rfl⟩⟩
def dTup (f : DTA) : DTE := fun r st Q => f r st fun ds st1 => okLen ds (Q (.tup ds) st1)
def dLst (f : DTA) : DTE := fun r st Q => f r st fun ds st1 => okLen ds (Q (.lst ds) st1)
def dLstN (f : DTA) : DTE := fun r st Q => f r st fun ds st1 => okLen ds (Q (.ref st1.length) (st1 ++ [.lst ds]))
theorem de_tup {x1} (h : DA T X es fs) : DE T X (.Tuple es x1 pos) (dTup fs) := PE.imp (pe_tupF h) fun σ H Q ⟨M, ρ, st, Q', s, re, hf, k⟩ =>
  ⟨M, ρ, st, _, s, re, hf, fun M1 H1 st1 ds vs g1 s1 r1 h1 => by
    obtain ⟨z, q⟩ := okLen.of h1
    exact ⟨by rw [← r1.length]; exact z, fun p ob np hd => (k.grow g1).tup s1 r1 np hd q⟩⟩
theorem de_lst (h : DA T X es fs) : DE T X (.List es pos) (dLst fs) := PE.imp (pe_lst h) fun σ H Q ⟨M, ρ, st, Q', s, re, hf, k⟩ =>
  ⟨M, ρ, st, _, s, re, hf, fun M1 H1 st1 ds vs g1 s1 r1 h1 => by
    obtain ⟨z, q⟩ := okLen.of h1
    exact ⟨by rw [← r1.length]; exact z, fun p np => (k.grow g1).lst s1 r1 np q⟩⟩
theorem de_lstN (h : DA T X es fs) : DE T X (.List es pos) (dLstN fs) := PE.imp (pe_lst h) fun σ H Q ⟨M, ρ, st, Q', s, re, hf, k⟩ =>
  ⟨M, ρ, st, _, s, re, hf, fun M1 H1 st1 ds vs g1 s1 r1 h1 => by
    obtain ⟨z, q⟩ := okLen.of h1
    exact ⟨by rw [← r1.length]; exact z, fun p np => (k.grow g1).own s1 r1 np q⟩⟩
def CallD (T : List (Addr × Str)) (K : Frag) (r : List V → Hp → VK → Prop) (r' : DRs) : Prop := ∀ (M : Pl) (H : Hp) (st : DSt) (ds : List D) (vs : List V) (Q' : DK) (Q : VK), RS T K M st H → RVs K M H ds vs → r' ds st Q' → Kn T K M H Q' Q → r vs H Q
def dCB (r' : DRs) (fs : DTA) : DTE := fun ρ st Q => fs ρ st fun ds st1 => r' ds st1 Q
theorem lift_cb {K : Frag} {r : List V → Hp → VK → Prop} {r' : DRs} (hd : CallD T K r r') {σ : L2.St} {H : Hp} {Q : VK} (h : lift T K (dCB r' fs) σ H Q) : tCB r (liftA T K fs) σ H Q := by
  obtain ⟨M, ρ, st, Q', s, re, hf, k⟩ := h
  exact ⟨M, ρ, st, _, s, re, hf, fun M1 H1 st1 ds vs g1 s1 r1 h1 => hd M1 H1 st1 ds vs Q' Q s1 r1 h1 (k.grow g1)⟩
theorem de_callB {id : String} {x : Str} {p : Pos} {e : Expr} {r : List V → Hp → VK → Prop} {r' : DRs} (hc : CallR X (.builtin id) r) (hd : CallD T X.K r r') (hg : Gl X x) (hm : X.mg x = none) (hv : bootBuiltins x = some (.builtin id)) (ha : DA T X (e :: es) fs)
    (hn : x ≠ "__name__" := by decide) (hdb : (x == ("__debug__" : Str)) = false := by decide)
    (he : starEach (e :: es) X.env = (false, eval e X.env) :: starEach es X.env := by rfl) (hpl : (backTo pos (starEach es X.env)).any (·.1) = false := by rfl) : DE T X (.Call (.Name x p) (e :: es) [] pos) (dCB r' fs) :=
  PE.imp (pe_callB hc hg hm hv ha hn hdb he hpl) fun _ _ _ h => lift_cb hd h
theorem de_callTy {id : String} {x : Str} {p : Pos} {e : Expr} {r : List V → Hp → VK → Prop} {r' : DRs} (hc : CallR X (.type id) r) (hd : CallD T X.K r r') (hg : Gl X x) (hm : X.mg x = none) (hv : bootBuiltins x = some (.type id)) (ha : DA T X (e :: es) fs)
    (hn : x ≠ "__name__" := by decide) (hdb : (x == ("__debug__" : Str)) = false := by decide)
    (he : starEach (e :: es) X.env = (false, eval e X.env) :: starEach es X.env := by rfl) (hpl : (backTo pos (starEach es X.env)).any (·.1) = false := by rfl) : DE T X (.Call (.Name x p) (e :: es) [] pos) (dCB r' fs) :=
  PE.imp (pe_callTy hc hg hm hv ha hn hdb he hpl) fun _ _ _ h => lift_cb hd h
def on1 (ds : List D) (k : D → Prop) : Prop := match ds with | [x] => k x | _ => False
def on2 (ds : List D) (k : D → D → Prop) : Prop := match ds with | [x, y] => k x y | _ => False
theorem on1.of {ds : List D} {k : D → Prop} (h : on1 ds k) : ∃ x, ds = [x] ∧ k x := by
  match ds, h with
  | [x], h => exact ⟨x, rfl, h⟩
  | [], h => exact h.elim
  | _ :: _ :: _, h => exact h.elim
theorem on2.of {ds : List D} {k : D → D → Prop} (h : on2 ds k) : ∃ x y, ds = [x, y] ∧ k x y := by
  match ds, h with
  | [x, y], h => exact ⟨x, y, rfl, h⟩
  | [], h => exact h.elim
  | [_], h => exact h.elim
  | _ :: _ :: _ :: _, h => exact h.elim
theorem RVs.one {K : Frag} {M : Pl} {H : Hp} {x : D} {vs : List V} (r : RVs K M H [x] vs) : ∃ v, vs = [v] ∧ RV K M H x v := by
  cases r with
  | cons h t => cases t; exact ⟨_, rfl, h⟩
theorem RVs.two {K : Frag} {M : Pl} {H : Hp} {x y : D} {vs : List V} (r : RVs K M H [x, y] vs) : ∃ v w, vs = [v, w] ∧ RV K M H x v ∧ RV K M H y w := by
  cases r with
  | cons h t => obtain ⟨w, rfl, q⟩ := t.one; exact ⟨_, _, rfl, h, q⟩
def dLen : DRs := fun ds st Q => on1 ds fun x => onO (seqS st x) fun xs => Q (.int xs.length) st
theorem callD_len {K : Frag} : CallD T K (fun xs H Q => ∃ p ys, xs = [.ref p] ∧ (SqL K H p ys ∨ SqT K H p ys) ∧ Q (.int ys.length) H) dLen := by
  intro M H st ds vs Q' Q s r h k
  obtain ⟨x, rfl, h⟩ := on1.of h
  obtain ⟨xs, e, h⟩ := onO.of h
  obtain ⟨v, rfl, rv⟩ := r.one
  obtain ⟨p, ys, rfl, sq, rs⟩ := seqS.rd s rv e
  refine ⟨p, ys, rfl, sq, ?_⟩
  rw [← rs.length]
  exact k.here s (.int _) h
def dAbs : DRs := fun ds st Q => on1 ds fun x => onI x fun i => Q (.int (if i < 0 then -i else i)) st
theorem callD_abs {K : Frag} : CallD T K (fun xs H Q => ∃ i, xs = [V.int i] ∧ Q (.int (if i < 0 then -i else i)) H) dAbs := by
  intro M H st ds vs Q' Q s r h k
  obtain ⟨x, rfl, h⟩ := on1.of h
  obtain ⟨i, rfl, h⟩ := onI.of h
  obtain ⟨v, rfl, rv⟩ := r.one
  cases rv
  exact ⟨i, rfl, k.here s (.int _) h⟩
def d2I (g : Int → Int → Int) : DRs := fun ds st Q => on2 ds fun x y => onI x fun i => onI y fun j => Q (.int (g i j)) st
theorem callD_2I {K : Frag} {g : Int → Int → Int} : CallD T K (fun xs H Q => ∃ i j, xs = [V.int i, V.int j] ∧ Q (.int (g i j)) H) (d2I g) := by
  intro M H st ds vs Q' Q s r h k
  obtain ⟨x, y, rfl, h⟩ := on2.of h
  obtain ⟨i, rfl, h⟩ := onI.of h
  obtain ⟨j, rfl, h⟩ := onI.of h
  obtain ⟨v, w, rfl, rv, rw'⟩ := r.two
  cases rv
  cases rw'
  exact ⟨i, j, rfl, k.here s (.int _) h⟩
abbrev dMax2 : DRs := d2I fun i j => if j > i then j else i
abbrev dMin2 : DRs := d2I fun i j => if j < i then j else i
def dTuple : DRs := fun ds st Q => on1 ds fun x => match x with
  | .tup xs => Q (.tup xs) st
  | .tuk xs => Q (.tuk xs) st
  | .lst xs => Q (.tup xs) st
  | .ref n => onO (seqS st (.ref n)) fun xs => Q (.tup xs) st
  | _ => False
def rTup2 (K : Frag) : List V → Hp → VK → Prop := fun xs H Q => rTupF K xs H Q ∨ ∃ a ys, xs = [.ref a] ∧ SqT K H a ys ∧ Q (.ref a) H
theorem call_tup2 : CallR X (.type "tuple") (rTup2 X.K) := CallR.or call_tupF call_tupleT
theorem callD_tup {K : Frag} : CallD T K (rTup2 K) dTuple := by
  intro M H st ds vs Q' Q s r h k
  obtain ⟨x, rfl, h⟩ := on1.of h
  obtain ⟨v, rfl, rv⟩ := r.one
  cases x with
  | tup xs => cases rv with | tup n e q rs => exact .inr ⟨_, _, rfl, .inl (.inr ⟨_, e⟩), k.here s (.tup n e q rs) h⟩
  | tuk xs => cases rv with | tuk n e rs => exact .inr ⟨_, _, rfl, .inl (.inl e), k.here s (.tuk n e rs) h⟩
  | lst xs => cases rv with
    | lst n e rs => exact .inl ⟨_, _, rfl, .inl (.inl e), fun l o nl hd => k.tup s rs nl hd h⟩
  | ref n =>
    obtain ⟨xs, e, h⟩ := onO.of h
    have rr := rv
    cases rv with
    | ref hm =>
      obtain ⟨o, e1, ro⟩ := s.atM hm
      unfold seqS at e
      simp only [e1] at e
      cases o with
      | lst zs => cases e; obtain ⟨ys, q, rs⟩ := ro; exact .inl ⟨_, ys, rfl, .inl (.inl q), fun l o nl hd => k.tup s rs nl hd h⟩
      | dK _ => cases e
      | dT _ => cases e
      | lk _ _ _ => cases e
  | _ => exact h.elim
def dListT : DRs := fun ds st Q => on1 ds fun x => onO (seqS st x) fun xs => Q (.lst xs) st
def dListN : DRs := fun ds st Q => on1 ds fun x => onO (seqS st x) fun xs => Q (.ref st.length) (st ++ [.lst xs])
theorem callD_listN {K : Frag} : CallD T K (fun xs H Q => ∃ p ys, xs = [.ref p] ∧ (SqL K H p ys ∨ SqT K H p ys) ∧ ∀ l, H l = none → Q (.ref l) (upd H l (.lst ys))) dListN := by
  intro M H st ds vs Q' Q s r h k
  obtain ⟨x, rfl, h⟩ := on1.of h
  obtain ⟨xs, e, h⟩ := onO.of h
  obtain ⟨v, rfl, rv⟩ := r.one
  obtain ⟨p, ys, rfl, sq, rs⟩ := seqS.rd s rv e
  exact ⟨p, ys, rfl, sq, fun l nl => k.own s rs nl h⟩
def boolsD : List D → Option (List Bool)
  | [] => some []
  | .bl b :: r => (boolsD r).map (b :: ·)
  | _ => none
theorem boolsD_of : ∀ {ds : List D} {bs : List Bool}, boolsD ds = some bs → ds = bs.map D.bl
  | [], bs, h => by cases h; rfl
  | .bl b :: r, bs, h => by
    unfold boolsD at h
    cases q : boolsD r with
    | none => rw [q] at h; cases h
    | some cs => rw [q] at h; cases h; rw [boolsD_of q]; rfl
  | .non :: r, bs, h => by cases h
  | .int _ :: r, bs, h => by cases h
  | .str _ :: r, bs, h => by cases h
  | .tup _ :: r, bs, h => by cases h
  | .tuk _ :: r, bs, h => by cases h
  | .lst _ :: r, bs, h => by cases h
  | .scr _ :: r, bs, h => by cases h
  | .ref _ :: r, bs, h => by cases h
theorem boolsD_map {α : Type} (g : α → Bool) : ∀ xs : List α, boolsD (xs.map fun x => D.bl (g x)) = some (xs.map g)
  | [] => rfl
  | x :: r => by rw [List.map_cons, List.map_cons]; unfold boolsD; rw [boolsD_map g r]; rfl
def dAllR (g : List Bool → Bool) : DRs := fun ds st Q => on1 ds fun x => match x with
  | .lst xs => onO (boolsD xs) fun bs => Q (.bl (g bs)) st
  | _ => False
theorem callD_all {K : Frag} (g : List Bool → Bool) : CallD T K (fun vs H Q => ∃ (a : Addr) (bs : List Bool), vs = [V.ref a] ∧ SqL K H a (bs.map V.bl) ∧ Q (.bl (g bs)) H) (dAllR g) := by
  intro M H st ds vs Q' Q s r h k
  obtain ⟨x, rfl, h⟩ := on1.of h
  obtain ⟨v, rfl, rv⟩ := r.one
  cases x with
  | lst xs =>
    obtain ⟨bs, e, h2⟩ := onO.of h
    have z := boolsD_of e
    subst z
    cases rv with
    | lst n e1 rs => have z := rs.bls; subst z; exact ⟨_, bs, rfl, .inl (.inl e1), k.here s (.bl _) h2⟩
  | _ => exact h.elim
abbrev dAll : DRs := dAllR fun bs => bs.all id
def dIx : DR2 := fun x y st Q => onO (seqS st x) fun ds => onI y fun i => onO (atI ds i) fun d => Q d st
theorem RVs.atI {K : Frag} {M : Pl} {H : Hp} {ds : List D} {xs : List V} (r : RVs K M H ds xs) {i : Int} {d : D} (h : L2.atI ds i = some d) : ∃ v, L2.atI xs i = some v ∧ RV K M H d v := by
  unfold L2.atI at h ⊢
  rw [← r.length]
  cases q : ixN ds.length i with
  | none => rw [q] at h; cases h
  | some j =>
    rw [q] at h
    obtain ⟨v, e, rv⟩ := r.get (i := j) (d := d) h
    exact ⟨v, e, rv⟩
theorem opD_ix {K : Frag} : OpD T K (rIx K) dIx := by
  intro M H st x y vx vy Q' Q s rx ry h k
  obtain ⟨ds, e, h⟩ := onO.of h
  obtain ⟨i, rfl, h⟩ := onI.of h
  obtain ⟨d, e2, h⟩ := onO.of h
  obtain ⟨p, xs, rfl, sq, rs⟩ := seqS.rd s rx e
  cases ry
  obtain ⟨v, e3, rv⟩ := rs.atI e2
  rcases sq with sq | sq
  · exact .inl ⟨p, xs, i, v, rfl, rfl, sq, e3, k.here s rv h⟩
  · exact .inr (.inl ⟨p, xs, i, v, rfl, rfl, sq, e3, k.here s rv h⟩)
theorem de_ix (ha : DE T X a fa) (hb : DE T X b fb) (hs : PlainIx b) : DE T X (.Subscript a b pos) (dOp dIx fa fb) := PE.imp (pe_ix ix_seq ha hb hs) fun _ _ _ h => lift2 opD_ix h
end
end DL
namespace DL
open PySem PySem.Spec PyProof.Rows L2 LamX PySem.W SL
mutual
def pdT : D → Option PyData
  | .non => some .none
  | .bl b => some (.bool b)
  | .int i => some (.int i)
  | .str x => some (.str x)
  | .tup ds => (pdTs ds).map .tuple
  | .tuk ds => (pdTs ds).map .tuple
  | .lst ds => (pdTs ds).map .list
  | .scr ds => (pdTs ds).map .list
  | .ref _ => none
def pdTs : List D → Option (List PyData)
  | [] => some []
  | d :: ds => match pdT d with
    | none => none
    | some p => (pdTs ds).map (p :: ·)
end
def pdS (st : DSt) : D → Option PyData
  | .ref n => match st[n]? with
    | some (.lst ds) => (pdTs ds).map .list
    | _ => none
  | d => pdT d
mutual
theorem pdT_dp {K : Frag} {M : Pl} {H : Hp} : ∀ {d : D} {v : V} {p : PyData}, RV K M H d v → pdT d = some p → Dp K H v p
  | _, _, _, .non, e => by simp only [pdT, Option.some.injEq] at e; subst e; exact .non
  | _, _, _, .bl b, e => by simp only [pdT, Option.some.injEq] at e; subst e; exact .bl b
  | _, _, _, .int b, e => by simp only [pdT, Option.some.injEq] at e; subst e; exact .int b
  | _, _, _, .str b, e => by simp only [pdT, Option.some.injEq] at e; subst e; exact .str b
  | _, _, _, .tup (ds := ds) n h q r, e => by
    simp only [pdT, Option.map_eq_some_iff] at e
    obtain ⟨ps, e, rfl⟩ := e
    exact .tup (.inl (.inr ⟨_, h⟩)) (pdTs_dp r e)
  | _, _, _, .tuk n h r, e => by
    simp only [pdT, Option.map_eq_some_iff] at e
    obtain ⟨ps, e, rfl⟩ := e
    exact .tup (.inl (.inl h)) (pdTs_dp r e)
  | _, _, _, .lst n h r, e => by
    simp only [pdT, Option.map_eq_some_iff] at e
    obtain ⟨ps, e, rfl⟩ := e
    exact .lst (.inl (.inl h)) (pdTs_dp r e)
  | _, _, _, .scr n h r, e => by
    simp only [pdT, Option.map_eq_some_iff] at e
    obtain ⟨ps, e, rfl⟩ := e
    exact .lst (.inl h) (pdTs_dp r e)
  | _, _, _, .lsk h r, e => by
    simp only [pdT, Option.map_eq_some_iff] at e
    obtain ⟨ps, e, rfl⟩ := e
    exact .lst (h H) (pdTs_dp r e)
  | _, _, _, .ref h, e => by simp [pdT] at e
theorem pdTs_dp {K : Frag} {M : Pl} {H : Hp} : ∀ {d : List D} {v : List V} {p : List PyData}, RVs K M H d v → pdTs d = some p → DpAll K H v p
  | _, _, _, .nil, e => by simp only [pdTs, Option.some.injEq] at e; subst e; exact .nil
  | _, _, _, .cons (d := d) h t, e => by
    unfold pdTs at e
    cases q : pdT d with
    | none => rw [q] at e; cases e
    | some y =>
      rw [q] at e
      simp only [Option.map_eq_some_iff] at e
      obtain ⟨ps, e, rfl⟩ := e
      exact .cons (pdT_dp h q) (pdTs_dp t e)
end
theorem pdS_dp {T : List (Addr × Str)} {K : Frag} {M : Pl} {H : Hp} {st : DSt} {d : D} {v : V} {p : PyData} (s : RS T K M st H) (r : RV K M H d v) (e : pdS st d = some p) : Dp K H v p := by
  cases d with
  | ref n =>
    cases r with
    | ref h =>
      obtain ⟨o, e1, ro⟩ := s.atM h
      unfold pdS at e
      simp only [e1] at e
      cases o with
      | lst zs =>
        simp only [Option.map_eq_some_iff] at e
        obtain ⟨ps, e, rfl⟩ := e
        obtain ⟨ys, q, rs⟩ := ro
        exact .lst (.inl (.inl q)) (pdTs_dp rs e)
      | dK _ => cases e
      | dT _ => cases e
      | lk _ _ _ => cases e
  | _ => exact pdT_dp r e
mutual
theorem pdT_plain : ∀ {d : D} {p : PyData}, pdT d = some p → p.hasDict = false
  | .non, _, e => by simp only [pdT, Option.some.injEq] at e; subst e; simp [PyData.hasDict]
  | .bl b, _, e => by simp only [pdT, Option.some.injEq] at e; subst e; simp [PyData.hasDict]
  | .int b, _, e => by simp only [pdT, Option.some.injEq] at e; subst e; simp [PyData.hasDict]
  | .str b, _, e => by simp only [pdT, Option.some.injEq] at e; subst e; simp [PyData.hasDict]
  | .tup ds, _, e => by
    simp only [pdT, Option.map_eq_some_iff] at e
    obtain ⟨ps, e, rfl⟩ := e
    simpa [PyData.hasDict] using pdTs_plain e
  | .tuk ds, _, e => by
    simp only [pdT, Option.map_eq_some_iff] at e
    obtain ⟨ps, e, rfl⟩ := e
    simpa [PyData.hasDict] using pdTs_plain e
  | .scr ds, _, e => by
    simp only [pdT, Option.map_eq_some_iff] at e
    obtain ⟨ps, e, rfl⟩ := e
    simpa [PyData.hasDict] using pdTs_plain e
  | .lst ds, _, e => by
    simp only [pdT, Option.map_eq_some_iff] at e
    obtain ⟨ps, e, rfl⟩ := e
    simpa [PyData.hasDict] using pdTs_plain e
  | .ref n, _, e => by simp [pdT] at e
theorem pdTs_plain : ∀ {d : List D} {p : List PyData}, pdTs d = some p → PyData.hasDictAll p = false
  | [], _, e => by simp only [pdTs, Option.some.injEq] at e; subst e; simp [PyData.hasDictAll]
  | d :: ds, _, e => by
    unfold pdTs at e
    cases q : pdT d with
    | none => rw [q] at e; cases e
    | some y =>
      rw [q] at e
      simp only [Option.map_eq_some_iff] at e
      obtain ⟨ps, e, rfl⟩ := e
      simp [PyData.hasDictAll, pdT_plain q, pdTs_plain e]
end
theorem pdS_plain {st : DSt} {d : D} {p : PyData} (e : pdS st d = some p) : p.hasDict = false := by
  cases d with
  | ref n =>
    unfold pdS at e
    simp only at e
    split at e
    · simp only [Option.map_eq_some_iff] at e
      obtain ⟨ps, e, rfl⟩ := e
      simpa [PyData.hasDict] using pdTs_plain e
    · cases e
  | _ => exact pdT_plain e
structure El (k c : Nat) (d : PyData) : Prop where
  sh : d.showable = true
  dp : d.depth ≤ k
  ln : d.shown.length ≤ c
  cl : d.canLay0 = true
theorem El.mono {k c k' c' : Nat} {d : PyData} (h : El k c d) (hk : k ≤ k') (hc : c ≤ c') : El k' c' d := ⟨h.sh, Nat.le_trans h.dp hk, Nat.le_trans h.ln hc, h.cl⟩
theorem el_all {k c : Nat} : ∀ {ds : List PyData}, (∀ x ∈ ds, El k c x) → PyData.showableAll ds = true ∧ PyData.depthAll ds ≤ k ∧ ((PyData.shownAll ds).map (·.length)).sum ≤ ds.length * c ∧ (PyData.shownAll ds).length = ds.length ∧ PyData.canLayAll0 ds = true
  | [], _ => by simp [PyData.showableAll, PyData.depthAll, PyData.shownAll, PyData.canLayAll0]
  | d :: ds, h => by
    obtain ⟨a, b, e, f, g⟩ := el_all (ds := ds) fun x hx => h x (List.mem_cons_of_mem _ hx)
    have h1 := h d List.mem_cons_self
    refine ⟨?_, ?_, ?_, ?_, ?_⟩
    · simp only [PyData.showableAll, h1.sh, a, Bool.and_self]
    · simp only [PyData.depthAll]
      have := h1.dp
      omega
    · simp only [PyData.shownAll, List.map_cons, List.sum_cons, List.length_cons]
      have := h1.ln
      rw [Nat.succ_mul]
      omega
    · simp only [PyData.shownAll, List.length_cons, f]
    · simp only [PyData.canLayAll0, h1.cl, g, Bool.and_self]
theorem el_tuple {k c m : Nat} {ds : List PyData} (h : ∀ x ∈ ds, El k c x) (l : ds.length ≤ m) : El (k + 1) (m * (c + 2) + 3) (.tuple ds) := by
  obtain ⟨a, b, e, f, g⟩ := el_all h
  have z := tupleText_len_le (PyData.shownAll ds)
  have z1 : ds.length * c ≤ m * c := Nat.mul_le_mul_right c l
  refine ⟨by simp only [PyData.showable]; exact a, by simp only [PyData.depth]; omega, ?_, by simp only [PyData.canLay0]; exact g⟩
  simp only [PyData.shown]
  rw [f] at z
  rw [Nat.mul_add]
  omega
theorem el_list {k c m : Nat} {ds : List PyData} (h : ∀ x ∈ ds, El k c x) (l : ds.length ≤ m) : El (k + 1) (m * (c + 2) + 3) (.list ds) := by
  obtain ⟨a, b, e, f, g⟩ := el_all h
  have z := listText_len_le (PyData.shownAll ds)
  have z1 : ds.length * c ≤ m * c := Nat.mul_le_mul_right c l
  refine ⟨by simp only [PyData.showable]; exact a, by simp only [PyData.depth]; omega, ?_, by simp only [PyData.canLay0]; exact g⟩
  simp only [PyData.shown]
  rw [f] at z
  rw [Nat.mul_add]
  omega
theorem el_int {i : Int} (h0 : -100 ≤ i) (h1 : i ≤ 1000) : El 0 20 (.int i) := by
  refine ⟨?_, by simp [PyData.depth], ?_, by simp [PyData.canLay0]⟩
  · simp only [PyData.showable]
    refine decide_eq_true ?_
    have z : i.natAbs ≤ 1000 := by omega
    have y : i.natAbs.log2 ≤ i.natAbs := Nat.log2_le_self _
    omega
  · have all : ((List.range 1101).all fun n => decide ((PyData.shown (.int ((n : Int) - 100))).length ≤ 20)) = true := by decide +kernel
    have z := List.all_eq_true.mp all (i + 100).toNat (List.mem_range.mpr (by omega))
    have e : (((i + 100).toNat : Nat) : Int) - 100 = i := by omega
    rw [e] at z
    exact of_decide_eq_true z
def Sm (k c : Nat) (d : D) : Prop := ∃ p, pdT d = some p ∧ El k c p
theorem Sm.mono {k c k' c' : Nat} {d : D} (h : Sm k c d) (hk : k ≤ k') (hc : c ≤ c') : Sm k' c' d := by
  obtain ⟨p, e, h⟩ := h
  exact ⟨p, e, h.mono hk hc⟩
theorem sm_all {k c : Nat} : ∀ {ds : List D}, (∀ x ∈ ds, Sm k c x) → ∃ ps, pdTs ds = some ps ∧ (∀ x ∈ ps, El k c x) ∧ ps.length = ds.length
  | [], _ => ⟨[], by simp [pdTs], by simp, rfl⟩
  | d :: ds, h => by
    obtain ⟨ps, e, a, l⟩ := sm_all (ds := ds) fun x hx => h x (List.mem_cons_of_mem _ hx)
    obtain ⟨p, e1, a1⟩ := h d List.mem_cons_self
    refine ⟨p :: ps, by simp [pdTs, e1, e], fun x hx => ?_, by simp [l]⟩
    rcases List.mem_cons.mp hx with z | z
    · rw [z]; exact a1
    · exact a x z
theorem sm_tup {k c m : Nat} {ds : List D} (h : ∀ x ∈ ds, Sm k c x) (l : ds.length ≤ m) : Sm (k + 1) (m * (c + 2) + 3) (.tup ds) := by
  obtain ⟨ps, e, a, l2⟩ := sm_all h
  exact ⟨.tuple ps, by simp [pdT, e], el_tuple a (by omega)⟩
theorem sm_int {i : Int} (h0 : -100 ≤ i) (h1 : i ≤ 1000) : Sm 0 20 (.int i) := ⟨_, by simp [pdT], el_int h0 h1⟩
theorem Sm.shaped {k c : Nat} {p : PyData} (h : El k c p) (hk : k ≤ 50) : SeqAt.shaped p = true := by
  unfold SeqAt.shaped
  rw [h.cl, Bool.true_and]
  exact decide_eq_true (by have := h.dp; omega)
def dRepr : DRs := fun ds st Q => on1 ds fun x => onO (pdS st x) fun p => (p.showable = true ∧ p.depth ≤ 50 ∧ p.shown.length ≤ sizeLine) ∧ Q (.str p.shown) st
section
variable {T : List (Addr × Str)} {X : Cx} {a b c : Expr} {es : List Expr} {fa fb fc : DTE} {fs : DTA} {pos : Pos} {K : Frag}
theorem callD_repr : CallD T K (rRepr K) dRepr := by
  intro M H st ds vs Q' Q s r h k
  obtain ⟨x, rfl, h⟩ := on1.of h
  obtain ⟨p, e, ⟨h1, h2, h3⟩, h⟩ := onO.of h
  obtain ⟨v, rfl, rv⟩ := r.one
  exact ⟨v, p, rfl, .inl ⟨pdS_dp s rv e, pdS_plain e⟩, h1, h2, h3, k.here s (.str _) h⟩
def dEqD (neg : Bool) : DR2 := fun x y st Q => onO (pdS st x) fun p => onO (pdS st y) fun q => (SeqAt.shaped p = true ∧ SeqAt.shaped q = true) ∧ Q (.bl (if neg then !PyData.eqv p q else PyData.eqv p q)) st
def dEqG (neg : Bool) : DR2 := fun x y st Q => match x, y with
  | .int i, .int j => Q (.bl (if neg then !decide (i = j) else decide (i = j))) st
  | .bl i, .bl j => Q (.bl (if neg then !decide (i = j) else decide (i = j))) st
  | .str i, .str j => Q (.bl (if neg then !decide (i = j) else decide (i = j))) st
  | x, y => dEqD neg x y st Q
def rEq2 (K : Frag) : R2 := fun x y H Q => rEq x y H Q ∨ rEqD K x y H Q
def rNe2 (K : Frag) : R2 := fun x y H Q => rNe x y H Q ∨ rNeD K x y H Q
theorem opD_eq : OpD T K (rEq2 K) (dEqG false) := by
  intro M H st x y vx vy Q' Q s rx ry h k
  have gen : dEqD false x y st Q' → rEq2 K vx vy H Q := fun h => by
    obtain ⟨p, e1, h⟩ := onO.of h
    obtain ⟨q, e2, ⟨h1, h2⟩, h⟩ := onO.of h
    exact .inr ⟨p, q, pdS_dp s rx e1, pdS_dp s ry e2, h1, h2, k.here s (.bl _) h⟩
  unfold dEqG at h
  split at h
  · cases rx
    cases ry
    exact .inl ⟨rfl, by rw [dec_int]; exact k.here s (.bl _) (by simpa [BEq.beq] using h)⟩
  · cases rx
    cases ry
    exact .inl ⟨rfl, by rw [dec_bl]; exact k.here s (.bl _) (by simpa [BEq.beq] using h)⟩
  · cases rx
    cases ry
    refine .inl ⟨rfl, ?_⟩
    rename_i i j
    have e : decide (V.str i = V.str j) = decide (i = j) := by
      by_cases z : i = j
      · rw [z]; simp
      · rw [decide_eq_false z]; exact decide_eq_false fun q => z (by cases q; rfl)
    rw [e]
    exact k.here s (.bl _) h
  · exact gen h
theorem opD_ne : OpD T K (rNe2 K) (dEqG true) := by
  intro M H st x y vx vy Q' Q s rx ry h k
  have gen : dEqD true x y st Q' → rNe2 K vx vy H Q := fun h => by
    obtain ⟨p, e1, h⟩ := onO.of h
    obtain ⟨q, e2, ⟨h1, h2⟩, h⟩ := onO.of h
    exact .inr ⟨p, q, pdS_dp s rx e1, pdS_dp s ry e2, h1, h2, k.here s (.bl _) h⟩
  unfold dEqG at h
  split at h
  · cases rx
    cases ry
    exact .inl ⟨rfl, by rw [dec_int]; exact k.here s (.bl _) (by simpa [BEq.beq] using h)⟩
  · cases rx
    cases ry
    exact .inl ⟨rfl, by rw [dec_bl]; exact k.here s (.bl _) (by simpa [BEq.beq] using h)⟩
  · cases rx
    cases ry
    refine .inl ⟨rfl, ?_⟩
    rename_i i j
    have e : decide (V.str i = V.str j) = decide (i = j) := by
      by_cases z : i = j
      · rw [z]; simp
      · rw [decide_eq_false z]; exact decide_eq_false fun q => z (by cases q; rfl)
    rw [e]
    exact k.here s (.bl _) h
  · exact gen h
abbrev dEq : DR2 := dEqG false
abbrev dNe : DR2 := dEqG true
theorem op_eq2 (hu : X.A.units + 64 < cLine) : OpR X (compareOp .Eq) (rEq2 X.K) := OpR.or op_eq (op_eqD hu)
theorem op_ne2 (hu : X.A.units + 64 < cLine) : OpR X (compareOp .NotEq) (rNe2 X.K) := OpR.or op_ne (op_neD hu)
def flatD : D → Bool
  | .non => true
  | .bl _ => true
  | .int _ => true
  | .str _ => true
  | _ => false
def eqF : D → D → Bool
  | .non, .non => true
  | .bl a, .bl b => a == b
  | .bl a, .int b => (if a then 1 else 0) == b
  | .int a, .bl b => a == (if b then 1 else 0)
  | .int a, .int b => a == b
  | .str a, .str b => a == b
  | _, _ => false
theorem RV.flat {M : Pl} {H : Hp} {d : D} {v : V} (r : RV K M H d v) (h : flatD d = true) : flatV v = true := by cases r <;> first | rfl | cases h
theorem RV.eqF {M : Pl} {H : Hp} {d e : D} {v w : V} (r : RV K M H d v) (q : RV K M H e w) (h1 : flatD d = true) (h2 : flatD e = true) : eqV v w = DL.eqF d e := by
  cases r <;> cases q <;> first | rfl | cases h1 | cases h2
theorem RVs.flat {M : Pl} {H : Hp} : ∀ {ds : List D} {vs : List V}, RVs K M H ds vs → ds.all flatD = true → vs.all flatV = true
  | _, _, .nil, _ => rfl
  | _, _, .cons h t, e => by
    rw [List.all_cons, Bool.and_eq_true] at e ⊢
    exact ⟨h.flat e.1, RVs.flat t e.2⟩
theorem RVs.inF {M : Pl} {H : Hp} {x : D} {v : V} (r : RV K M H x v) (hx : flatD x = true) : ∀ {ds : List D} {vs : List V}, RVs K M H ds vs → ds.all flatD = true → inV v vs = ds.any fun y => DL.eqF y x
  | _, _, .nil, _ => rfl
  | _, _, .cons h t, e => by
    rw [List.all_cons, Bool.and_eq_true] at e
    have z := RVs.inF r hx t e.2
    unfold inV at z ⊢
    rw [List.any_cons, List.any_cons, z, h.eqF r e.1 hx]
def dInG (neg : Bool) : DR2 := fun x y st Q => onO (seqS st y) fun ds => (flatD x = true ∧ ds.all flatD = true) ∧ Q (.bl (if neg then !(ds.any fun y => eqF y x) else ds.any fun y => eqF y x)) st
theorem opD_in (neg : Bool) : OpD T K (rIn K neg) (dInG neg) := by
  intro M H st x y vx vy Q' Q s rx ry h k
  obtain ⟨ds, e, ⟨h1, h2⟩, h⟩ := onO.of h
  obtain ⟨p, xs, rfl, sq, rs⟩ := seqS.rd s ry e
  refine ⟨p, xs, rfl, sq, rx.flat h1, rs.flat h2, ?_⟩
  rw [rs.inF rx h1 h2]
  exact k.here s (.bl _) h
abbrev dIn : DR2 := dInG false
abbrev dNotIn : DR2 := dInG true
def dChain (r r' : DR2) (fa fb fc : DTE) : DTE := fun ρ st Q => fa ρ st fun x st1 => fb ρ st1 fun y st2 => r x y st2 fun z st3 => onB z fun k => if k = true then fc ρ st3 fun w st4 => r' y w st4 Q else Q (.bl false) st3
end
end DL
namespace DL
open PySem PySem.Spec PyProof.Rows L2 LamX PySem.W SL
structure DEnds where
  nx : DEnv → DSt → Prop
  rt : DK
  bk : DEnv → DSt → Prop := fun _ _ => False
  ct : DEnv → DSt → Prop := fun _ _ => False
abbrev DTS := DEnds → DEnv → DSt → Prop
def KnE (T : List (Addr × Str)) (K : Frag) (M : Pl) (H : Hp) (N : DEnv → DSt → Prop) (N' : L2.St → Hp → Prop) : Prop :=
  ∀ M' H' σ' r' st', Grow M H M' H' → RS T K M' st' H' → RE K M' H' r' σ' → N r' st' → N' σ' H'
structure KnS (T : List (Addr × Str)) (K : Frag) (M : Pl) (H : Hp) (E : DEnds) (E' : Ends) : Prop where
  nx : KnE T K M H E.nx E'.nx
  rt : Kn T K M H E.rt E'.rt
  bk : KnE T K M H E.bk E'.bk
  ct : KnE T K M H E.ct E'.ct
theorem KnE.grow {T : List (Addr × Str)} {K : Frag} {M M1 : Pl} {H H1 : Hp} {N : DEnv → DSt → Prop} {N' : L2.St → Hp → Prop} (k : KnE T K M H N N') (g : Grow M H M1 H1) : KnE T K M1 H1 N N' :=
  fun M' H' σ' r' st' g1 s re q => k M' H' σ' r' st' (g.trans g1) s re q
theorem KnE.here {T : List (Addr × Str)} {K : Frag} {M : Pl} {H : Hp} {N : DEnv → DSt → Prop} {N' : L2.St → Hp → Prop} {σ : L2.St} {r : DEnv} {st : DSt} (k : KnE T K M H N N') (s : RS T K M st H) (re : RE K M H r σ) (q : N r st) : N' σ H :=
  k M H σ r st (Grow.refl M H) s re q
theorem KnS.grow {T : List (Addr × Str)} {K : Frag} {M M1 : Pl} {H H1 : Hp} {E : DEnds} {E' : Ends} (k : KnS T K M H E E') (g : Grow M H M1 H1) : KnS T K M1 H1 E E' := ⟨k.nx.grow g, k.rt.grow g, k.bk.grow g, k.ct.grow g⟩
def liftS (T : List (Addr × Str)) (K : Frag) (F : DTS) : TS := fun E σ H => ∃ M r st E', RS T K M st H ∧ RE K M H r σ ∧ F E' r st ∧ KnS T K M H E' E
abbrev DSt1 (T : List (Addr × Str)) (X : Cx) (s : Stmt) (F : DTS) : Prop := PS X s (liftS T X.K F)
abbrev DSs (T : List (Addr × Str)) (X : Cx) (s : List Stmt) (F : DTS) : Prop := PSs X s (liftS T X.K F)
def sNext : DTS := fun E r st => E.nx r st
def sSeq (F G : DTS) : DTS := fun E r st => F { E with nx := G E } r st
def sNever : DTS := fun _ _ _ => False
def sDrop (f : DTE) : DTS := fun E r st => f r st fun _ st1 => E.nx r st1
def sRet (f : DTE) : DTS := fun E r st => f r st E.rt
def sRetN : DTS := fun E _ st => E.rt .non st
def sIf (t : DTT) (F G : DTS) : DTS := fun E r st => t r st fun b st1 => if b = true then F E r st1 else G E r st1
section
variable {T : List (Addr × Str)} {X : Cx} {st : Stmt} {rest : List Stmt} {F G : DTS} {e : Expr} {f : DTE} {pos : Pos}
theorem ds_nil : DSs T X [] sNext := PSs.imp pss_nil fun E σ H ⟨M, r, st, E', s, re, h, k⟩ => k.nx.here s re h
theorem ds_cons (h1 : DSt1 T X st F) (h2 : DSs T X rest G) : DSs T X (st :: rest) (sSeq F G) := PSs.imp (pss_cons h1 h2) fun E σ H ⟨M, r, st, E', s, re, h, k⟩ =>
  ⟨M, r, st, _, s, re, h, fun M1 H1 σ1 r1 st1 g1 s1 re1 q => ⟨M1, r1, st1, E', s1, re1, q, k.grow g1⟩, k.rt, k.bk, k.ct⟩
theorem ds_one (h1 : DSt1 T X st F) : DSs T X [st] F := pss_one h1
theorem ds_never : DSt1 T X st sNever := PS.imp ps_never fun E σ H ⟨M, r, st, E', s, re, h, k⟩ => h.elim
theorem ds_expr (he : DE T X e f) (hs : swapsWith e none pos.line X.env = pure false := by rfl) : DSt1 T X (.Expr e pos) (sDrop f) := PS.imp (ps_expr he hs) fun E σ H ⟨M, r, st, E', s, re, h, k⟩ =>
  ⟨M, r, st, _, s, re, h, fun M1 H1 st1 d v g1 s1 r1 q => k.nx M1 H1 σ r st1 g1 s1 (re.grow g1) q⟩
theorem ds_ret (he : DE T X e f) : DSt1 T X (.Return (some e) pos) (sRet f) := PS.imp (ps_ret he) fun E σ H ⟨M, r, st, E', s, re, h, k⟩ => ⟨M, r, st, _, s, re, h, k.rt⟩
theorem ds_if {c : Expr} {a b : List Stmt} {t : DTT} (hc : DT T X c t) (ha : DSs T X a F) (hb : DSs T X b G) : DSt1 T X (.If c a b pos) (sIf t F G) := PS.imp (ps_if hc ha hb) fun E σ H ⟨M, r, st, E', s, re, h, k⟩ =>
  ⟨M, r, st, _, s, re, h, fun M1 H1 st1 c g1 s1 q => by
    cases c with
    | true => rw [if_pos rfl] at q ⊢; exact ⟨M1, r, st1, E', s1, re.grow g1, q, k.grow g1⟩
    | false => rw [if_neg (by decide)] at q ⊢; exact ⟨M1, r, st1, E', s1, re.grow g1, q, k.grow g1⟩⟩
end
abbrev DTG := D → DEnv → DSt → (DEnv → DSt → Prop) → Prop
abbrev DTGs := List D → DEnv → DSt → (DEnv → DSt → Prop) → Prop
def liftG (T : List (Addr × Str)) (K : Frag) (vs : List Nat) (g : DTG) : TG := fun v σ H Q => ∃ M r st d Q', RS T K M st H ∧ RE K M H r σ ∧ RV K M H d v ∧ g d r st Q' ∧
  ∀ M' H' σ' r' st', Grow M H M' H' → RS T K M' st' H' → RE K M' H' r' σ' → wipe σ' vs = wipe σ vs → Q' r' st' → Q σ' H'
def liftGs (T : List (Addr × Str)) (K : Frag) (vs : List Nat) (g : DTGs) : TGs := fun v σ H Q => ∃ M r st d Q', RS T K M st H ∧ RE K M H r σ ∧ RVs K M H d v ∧ g d r st Q' ∧
  ∀ M' H' σ' r' st', Grow M H M' H' → RS T K M' st' H' → RE K M' H' r' σ' → wipe σ' vs = wipe σ vs → Q' r' st' → Q σ' H'
theorem PG.imp {X : Cx} {e : Expr} {t t' : TG} (h : PG X e t) (i : ∀ v σ H Q, t' v σ H Q → t v σ H Q) : PG X e t' := ⟨fun pins s σ H v u Q I r z => h.run pins s σ H v u Q I r (i v σ H Q z)⟩
theorem PGs.imp {X : Cx} {e : List Expr} {t t' : TGs} (h : PGs X e t) (i : ∀ v σ H Q, t' v σ H Q → t v σ H Q) : PGs X e t' := ⟨fun pins s σ H v u Q I r z => h.run pins s σ H v u Q I r (i v σ H Q z)⟩
abbrev DG (T : List (Addr × Str)) (X : Cx) (vs : List Nat) (e : Expr) (g : DTG) : Prop := PG X e (liftG T X.K vs g)
abbrev DGs (T : List (Addr × Str)) (X : Cx) (vs : List Nat) (e : List Expr) (g : DTGs) : Prop := PGs X e (liftGs T X.K vs g)
theorem RE.set {K : Frag} {M : Pl} {H : Hp} {r : DEnv} {σ : L2.St} (h : RE K M H r σ) (i : Nat) {d : D} {v : V} (rv : RV K M H d v) : RE K M H (r.set i (some d)) (σ.set i (some v)) := by
  refine ⟨by rw [List.length_set, List.length_set]; exact h.len, fun j c e => ?_⟩
  by_cases q : j = i
  · subst q
    have lt : j < r.length := by
      have := (List.getElem?_eq_some_iff.mp e).1
      rw [List.length_set] at this
      exact this
    rw [List.getElem?_set_self lt] at e
    cases e
    exact ⟨v, List.getElem?_set_self (by rw [← h.len]; exact lt), rv⟩
  · rw [List.getElem?_set_ne (fun z => q z.symm)] at e ⊢
    exact h.at_ j c e
theorem wipe_set {σ : L2.St} {i : Nat} {x : Option V} : ∀ {vs : List Nat}, i ∈ vs → wipe (σ.set i x) vs = wipe σ vs
  | [], h => by cases h
  | v :: vs, h => by
    show (wipe (σ.set i x) vs).set v none = (wipe σ vs).set v none
    by_cases m : i ∈ vs
    · rw [wipe_set m]
    · rcases List.mem_cons.mp h with z | z
      · subst z
        have gen : ∀ (ws : List Nat) (τ : L2.St), i ∉ ws → wipe (τ.set i x) ws = (wipe τ ws).set i x := by
          intro ws
          induction ws with
          | nil => intro τ _; rfl
          | cons w ws ih =>
            intro τ hn
            rw [List.mem_cons, not_or] at hn
            show (wipe (τ.set i x) ws).set w none = ((wipe τ ws).set w none).set i x
            rw [ih τ hn.2, List.set_comm _ _ hn.1]
        rw [gen vs σ m, List.set_set]
      · exact absurd z m
def gNm (i : Nat) : DTG := fun d r st Q => Q (r.set i (some d)) st
def gsNil : DTGs := fun ds r st Q => match ds with | [] => Q r st | _ => False
def gsCons (g : DTG) (h : DTGs) : DTGs := fun ds r st Q => match ds with | d :: e => g d r st fun r1 st1 => h e r1 st1 Q | [] => False
def gTp (n : Nat) (g : DTGs) : DTG := fun d r st Q => match d with
  | .tup ds => ds.length = n ∧ g ds r st Q
  | .tuk ds => ds.length = n ∧ g ds r st Q
  | .lst ds => ds.length = n ∧ g ds r st Q
  | _ => False
theorem PG.or {X : Cx} {e : Expr} {t t' : TG} (h : PG X e t) (h' : PG X e t') : PG X e fun v σ H Q => t v σ H Q ∨ t' v σ H Q := ⟨fun pins s σ H v u Q I r z => by
  rcases z with z | z
  · exact h.run pins s σ H v u Q I r z
  · exact h'.run pins s σ H v u Q I r z⟩
section
variable {T : List (Addr × Str)} {X : Cx} {vs : List Nat} {pos : Pos}
theorem dg_name {i : Nat} {x : Str} (hN : X.N.Nodup) (hi : X.N[i]? = some x) (hx : Loc X.env.scope x) (m : i ∈ vs) (hf : X.fn x = true ∨ X.env.scope.names.lookup x = some .local := by first | exact .inl rfl | exact .inr rfl | assumption) : DG T X vs (.Name x pos) (gNm i) :=
  PG.imp (pg_name hN hi hx hf) fun v σ H Q ⟨M, r, st, d, Q', s, re, rv, h, k⟩ => k M H _ _ st (Grow.refl M H) s (re.set i rv) (wipe_set m) h
theorem dgs_nil : DGs T X vs [] gsNil := PGs.imp pgs_nil fun v σ H Q ⟨M, r, st, d, Q', s, re, rv, h, k⟩ => by
  cases d with
  | nil => cases rv; exact ⟨rfl, k M H σ r st (Grow.refl M H) s re rfl h⟩
  | cons _ _ => exact h.elim
theorem dgs_cons {e : Expr} {es : List Expr} {g : DTG} {h : DTGs} (h1 : DG T X vs e g) (h2 : DGs T X vs es h) (hs : (assignEach (e :: es) X.env).map (·.2) = assign e X.env :: (assignEach es X.env).map (·.2) := by rfl) : DGs T X vs (e :: es) (gsCons g h) :=
  PGs.imp (pgs_cons h1 h2 hs) fun v σ H Q ⟨M, r, st, d, Q', s, re, rv, h, k⟩ => by
    cases d with
    | nil => exact h.elim
    | cons d ds =>
      cases rv with
      | cons r1 rs => exact ⟨_, _, rfl, M, r, st, d, _, s, re, r1, h, fun M1 H1 σ1 r1' st1 g1 s1 re1 w1 q => ⟨M1, r1', st1, ds, Q', s1, re1, rs.grow g1, q, fun M2 H2 σ2 r2 st2 g2 s2 re2 w2 q2 => k M2 H2 σ2 r2 st2 (g1.trans g2) s2 re2 (w2.trans w1) q2⟩⟩
theorem dg_tup {es : List Expr} {k : Nat} {g : DTGs} {n : Nat} (hc : X.calm = true) (h : DGs T X vs es g) (hn : (assignEach es X.env).length = n := by rfl) (hst : (assignEach es X.env).findIdx? (·.1) = none := by rfl) : DG T X vs (.Tuple es k pos) (gTp n g) :=
  PG.imp (PG.or (pg_tup hc h hn hst) (pg_lst hc h hn hst)) fun v σ H Q ⟨M, r, st, d, Q', s, re, rv, hh, kk⟩ => by
    cases d with
    | tup ds => cases rv with | tup nn e q rs => exact .inl ⟨_, _, rfl, .inl (.inr ⟨_, e⟩), by rw [← rs.length]; exact hh.1, M, r, st, ds, Q', s, re, rs, hh.2, kk⟩
    | tuk ds => cases rv with | tuk nn e rs => exact .inl ⟨_, _, rfl, .inl (.inl e), by rw [← rs.length]; exact hh.1, M, r, st, ds, Q', s, re, rs, hh.2, kk⟩
    | lst ds => cases rv with | lst nn e rs => exact .inr ⟨_, _, rfl, .inl (.inl e), by rw [← rs.length]; exact hh.1, M, r, st, ds, Q', s, re, rs, hh.2, kk⟩
    | _ => exact hh.elim
def sSet (i : Nat) (f : DTE) : DTS := fun E r st => f r st fun d st1 => E.nx (r.set i (some d)) st1
theorem ds_set {i : Nat} {x : Str} {e : Expr} {f : DTE} {pos' : Pos} (hN : X.N.Nodup) (hi : X.N[i]? = some x) (hx : Loc X.env.scope x) (he : DE T X e f) (hs : swapsWith e (some (.Name x pos')) pos.line X.env = pure false := by rfl)
    (hf : X.fn x = true ∨ X.env.scope.names.lookup x = some .local := by first | exact .inl rfl | exact .inr rfl | assumption) : DSt1 T X (.Assign [.Name x pos'] e pos) (sSet i f) :=
  PS.imp (ps_set hN hi hx he hs hf) fun E σ H ⟨M, r, st, E', s, re, h, k⟩ => ⟨M, r, st, _, s, re, h, fun M1 H1 st1 d v g1 s1 r1 q => k.nx M1 H1 _ _ st1 g1 s1 ((re.grow g1).set i r1) q⟩
def sAsg (f : DTE) (g : DTG) : DTS := fun E r st => f r st fun d st1 => g d r st1 E.nx
theorem ds_asg {tg e : Expr} {f : DTE} {g : DTG} (he : DE T X e f) (hg : DG T X vs tg g) (hs : swapsWithSole [tg] e pos.line X.env = pure false := by rfl) (hw : swappedStores [tg] e X.env = pure none := by rfl) (h1 : (assignEach [tg] X.env).map (·.2) = [assign tg X.env] := by rfl) : DSt1 T X (.Assign [tg] e pos) (sAsg f g) :=
  PS.imp (ps_asg he hg hs hw h1) fun E σ H ⟨M, r, st, E', s, re, h, k⟩ => ⟨M, r, st, _, s, re, h, fun M1 H1 st1 d v g1 s1 r1 q =>
    ⟨M1, r, st1, d, _, s1, re.grow g1, r1, q, fun M2 H2 σ2 r2 st2 g2 s2 re2 _ q2 => k.nx M2 H2 σ2 r2 st2 (g1.trans g2) s2 re2 q2⟩⟩
def sPar (i j : Nat) (f : DTA) : DTS := fun E r st => f r st fun ds st1 => on2 ds fun d e => E.nx ((r.set i (some d)).set j (some e)) st1
theorem ds_par {i j : Nat} {x y : Str} {a b : Expr} {f : DTA} {px py pt : Pos} {kt k2 pt2} (hc : X.calm = true) (hN : X.N.Nodup) (hi : X.N[i]? = some x) (hj : X.N[j]? = some y) (hij : i ≠ j) (hx : X.env.scope.names.lookup x = some .local) (hy : X.env.scope.names.lookup y = some .local) (ha : DA T X [a, b] f)
    (hw : swappedStores [.Tuple [.Name x px, .Name y py] kt pt] (.Tuple [a, b] k2 pt2) X.env = pure (some [x, y])) (hs : swapsWithSole [.Tuple [.Name x px, .Name y py] kt pt] (.Tuple [a, b] k2 pt2) pos.line X.env = pure false := by rfl) :
    DSt1 T X (.Assign [.Tuple [.Name x px, .Name y py] kt pt] (.Tuple [a, b] k2 pt2) pos) (sPar i j f) :=
  PS.imp (ps_par hc hN hi hj hij hx hy ha hw hs) fun E σ H ⟨M, r, st, E', s, re, h, k⟩ => ⟨M, r, st, _, s, re, h, fun M1 H1 st1 ds vs g1 s1 r1 q => by
    obtain ⟨d, e, rfl, q⟩ := on2.of q
    obtain ⟨v, w, rfl, rv, rw'⟩ := r1.two
    exact ⟨v, w, rfl, k.nx M1 H1 _ _ st1 g1 s1 (((re.grow g1).set i rv).set j rw') q⟩⟩
def gSb (fo fi : DTE) : DTG := fun d r st Q => fo r st fun o st1 => fi r st1 fun i st2 => match o with
  | .ref n => onI i fun k => match st2[n]? with
    | some (.lst xs) => onO (ixN xs.length k) fun j => Q r (st2.set n (.lst (xs.set j d)))
    | _ => False
  | _ => False
theorem dg_sub {o i : Expr} {fo fi : DTE} (ho : DE T X o fo) (hi : DE T X i fi)
    (ha : ∀ v, assign (.Subscript o i pos) X.env v = (do let ov ← holding [v] (eval o X.env); let iv ← holding [v, ov] (eval i X.env); standAt pos; holding [v, ov, iv] (setItem ov iv v); release [v, ov, iv] []) := by intro _; rfl) : DG T X vs (.Subscript o i pos) (gSb fo fi) :=
  PG.imp (pg_sub ho hi set_list ha) fun v σ H Q ⟨M, r, st, d, Q', s, re, rv, h, k⟩ =>
    ⟨M, r, st, _, s, re, h, fun M1 H1 st1 o vo g1 s1 r1 q => ⟨M1, r, st1, _, s1, re.grow g1, q, fun M2 H2 st2 i vi g2 s2 r2 q2 => by
      cases o with
      | ref n =>
        obtain ⟨kk, rfl, q3⟩ := onI.of q2
        cases r2
        have r1' := r1.grow g2
        cases r1' with
        | ref hm =>
          split at q3
          · rename_i xs e1
            obtain ⟨j, e2, q4⟩ := onO.of q3
            obtain ⟨ys, hy, rs⟩ := s2.obj n _ _ hm e1
            refine ⟨_, ys, kk, j, rfl, rfl, hy, by rw [← rs.length]; exact e2, ?_⟩
            have gw : Grow M2 H2 M2 (upd H2 _ (.lst (ys.set j v))) := Grow.write s2.nd hm
            refine k M2 _ σ r _ ((g1.trans g2).trans gw) (s2.write (u := .lst (xs.set j d)) hm ⟨ys.set j v, upd_same, ?_⟩) ((re.grow (g1.trans g2)).grow gw) rfl q4
            exact ((rs.grow gw).set (((rv.grow g1).grow g2).grow gw) j)
          · exact q3.elim
      | _ => exact q2.elim⟩⟩
end
end DL
namespace DL
open PySem PySem.Spec PyProof.Rows L2 LamX PySem.W SL
structure Later (M : Pl) (H : Hp) (M' : Pl) (H' : Hp) : Prop where
  keep : ∀ a o, a ∉ M.m → H a = some o → (∀ ps, o ≠ .tbl ps) → H' a = some o
  get : ∀ n a, M.at_ n = some a → M'.at_ n = some a
  notin : ∀ a, a ∉ M.m → NT H a → a ∉ M'.m
theorem Grow.later {M M' : Pl} {H H' : Hp} (g : Grow M H M' H') : Later M H M' H' := ⟨g.keep, fun _ _ h => g.get h, fun _ h t => g.notin h t⟩
theorem Later.trans {M M1 M2 : Pl} {H H1 H2 : Hp} (a : Later M H M1 H1) (b : Later M1 H1 M2 H2) (th : ∀ a, NT H a → NT H1 a) : Later M H M2 H2 :=
  ⟨fun c o n h t => b.keep c o (a.notin c n ⟨o, h, t⟩) (a.keep c o n h t) t, fun n c h => b.get n c (a.get n c h), fun c n h => b.notin c (a.notin c n h) (th c h)⟩
theorem Rd.later {M M' : Pl} {H H' : Hp} (g : Later M H M' H') {a : Addr} {xs : List V} (n : a ∉ M.m) (r : Rd H a (.lst xs)) : Rd H' a (.lst xs) := by
  rcases r with r | ⟨o, r⟩
  · exact .inl (g.keep a _ n r (fun ps z => by cases z))
  · exact .inr ⟨o, g.keep a _ n r (fun ps z => by cases z)⟩
mutual
theorem RV.later {K : PySem.W.Frag} {M M' : Pl} {H H' : Hp} (g : Later M H M' H') : ∀ {d : D} {v : V}, RV K M H d v → RV K M' H' d v
  | _, _, .non => .non
  | _, _, .bl b => .bl b
  | _, _, .int i => .int i
  | _, _, .str x => .str x
  | _, _, .tup n h e r => .tup (g.notin _ n ⟨_, h, fun ps z => by cases z⟩) (g.keep _ _ n h (fun ps z => by cases z)) e (r.later g)
  | _, _, .tuk n h r => .tuk (g.notin _ n ⟨_, h, fun ps z => by cases z⟩) (g.keep _ _ n h (fun ps z => by cases z)) (r.later g)
  | _, _, .lst n h r => .lst (g.notin _ n ⟨_, h, fun ps z => by cases z⟩) (g.keep _ _ n h (fun ps z => by cases z)) (r.later g)
  | _, _, .scr n h r => .scr (g.notin _ n (Rd.there h)) (Rd.later g n h) (r.later g)
  | _, _, .lsk h r => .lsk h (r.later g)
  | _, _, .ref h => .ref (g.get _ _ h)
theorem RVs.later {K : PySem.W.Frag} {M M' : Pl} {H H' : Hp} (g : Later M H M' H') : ∀ {d : List D} {v : List V}, RVs K M H d v → RVs K M' H' d v
  | _, _, .nil => .nil
  | _, _, .cons h t => .cons (h.later g) (t.later g)
end
theorem RO.later {K : PySem.W.Frag} {M M' : Pl} {H H' : Hp} (g : Later M H M' H') {o : O} {a : Addr} (h : RO K M H o a) (e : H' a = H a) : RO K M' H' o a := by
  cases o with
  | lst ds => obtain ⟨xs, h1, h2⟩ := h; exact ⟨xs, e.trans h1, h2.later g⟩
  | dK kvs => obtain ⟨ys, h1, h2, h3⟩ := h; exact ⟨ys, e.trans h1, h2, h3.later g⟩
  | dT kvs => obtain ⟨ys, h1, h2, h3⟩ := h; exact ⟨ys, e.trans h1, h2, h3.later g⟩
  | lk ob ys kvs => obtain ⟨h1, h2, h3⟩ := h; exact ⟨e.trans h1, h2, h3.later g⟩
def Pl.hide (M : Pl) (p : Addr) : Pl := ⟨M.h + 1, p :: M.m⟩
theorem Pl.hide_at (M : Pl) (p : Addr) (n : Nat) : (M.hide p).at_ n = M.at_ n := by
  unfold Pl.at_ Pl.hide
  show (p :: M.m)[M.h + 1 + n]? = M.m[M.h + n]?
  rw [show M.h + 1 + n = (M.h + n) + 1 by omega, List.getElem?_cons_succ]
theorem Pl.hide_app (M : Pl) (p : Addr) (m : List Addr) : (M.hide p).app m = (M.app m).hide p := rfl
theorem Pl.hide_inj {M N : Pl} {p : Addr} (h : M.hide p = N.hide p) : M = N := by
  cases M
  cases N
  unfold Pl.hide at h
  simp only [Pl.mk.injEq, List.cons.injEq, Nat.add_right_cancel_iff, true_and] at h
  rw [h.1, h.2]
theorem later_hide {M : Pl} {H : Hp} {p : Addr} {o : HO} (np : H p = none) : Later M H (M.hide p) (upd H p o) :=
  ⟨fun a u _ e _ => by rw [upd_ne (ne_of_none e np)]; exact e, fun n a h => by rw [Pl.hide_at]; exact h, fun a h t z => by
    rcases List.mem_cons.mp z with z | z
    · exact t.ne np z
    · exact h z⟩
theorem later_unhide {M : Pl} {H : Hp} {p : Addr} : Later (M.hide p) H M H :=
  ⟨fun _ _ _ e _ => e, fun n a h => by rw [← Pl.hide_at M p n]; exact h, fun a h _ z => h (List.mem_cons_of_mem _ z)⟩
theorem later_own {M : Pl} {H : Hp} {p : Addr} : Later (M.hide p) H (M.app [p]) H :=
  ⟨fun _ _ _ e _ => e, fun n a h => by
    rw [Pl.hide_at] at h
    unfold Pl.at_ at h ⊢
    show (M.m ++ [p])[M.h + n]? = some a
    rw [List.getElem?_append_left (List.getElem?_eq_some_iff.mp h).1]
    exact h, fun a h _ z => h (by
    rcases List.mem_append.mp z with z | z
    · exact List.mem_cons_of_mem _ z
    · rw [List.mem_singleton.mp z]; exact List.mem_cons_self)⟩
section
variable {T : List (Addr × Str)} {K : Frag} {M M' : Pl} {H H' : Hp} {st : DSt} {p : Addr}
theorem RS.hide (s : RS T K M st H) (np : H p = none) {xs : List V} : RS T K (M.hide p) st (upd H p (.lst xs)) := by
  refine ⟨by show (p :: M.m).length = M.h + 1 + st.length; rw [List.length_cons, s.len]; omega, List.nodup_cons.mpr ⟨s.notin np, s.nd⟩, fun n a o e1 e2 => ?_, tabs_upd s.tabs fun b u hb _ => ne_of_none hb np, fun a ha => ?_⟩
  · rw [Pl.hide_at] at e1
    exact (s.obj n a o e1 e2).later (later_hide np) (upd_ne fun z => s.notin np (by rw [← z]; exact Pl.at_mem e1))
  · have ha' : a ∈ (p :: M.m).take (M.h + 1) := ha
    rw [List.take_succ_cons] at ha'
    rcases List.mem_cons.mp ha' with z | z
    · rw [z]; exact ⟨xs, upd_same⟩
    · exact s.hid.upd np a z
theorem RS.unhide (s : RS T K (M.hide p) st H) : RS T K M st H := by
  have len : (p :: M.m).length = M.h + 1 + st.length := s.len
  rw [List.length_cons] at len
  refine ⟨by omega, (List.nodup_cons.mp s.nd).2, fun n a o e1 e2 => ?_, s.tabs, fun a ha => s.hid a ?_⟩
  · exact (s.obj n a o (by rw [Pl.hide_at]; exact e1) e2).later later_unhide rfl
  · show a ∈ (p :: M.m).take (M.h + 1)
    rw [List.take_succ_cons]
    exact List.mem_cons_of_mem _ ha
theorem RS.own {ds : List D} {xs : List V} (s : RS T K (M.hide p) st H) (hp : H p = some (.lst xs)) (r : RVs K (M.hide p) H ds xs) : RS T K (M.app [p]) (st ++ [.lst ds]) H := by
  have u := s.unhide
  refine ⟨?_, ?_, fun n a o e1 e2 => ?_, s.tabs, fun a ha => ?_⟩
  · show (M.m ++ [p]).length = M.h + (st ++ [O.lst ds]).length
    rw [List.length_append, List.length_append, u.len, Nat.add_assoc]
    rfl
  · show (M.m ++ [p]).Nodup
    rw [List.nodup_append]
    refine ⟨u.nd, by simp, fun a ha b hb => ?_⟩
    rw [List.mem_singleton.mp hb]
    exact fun z => (List.nodup_cons.mp s.nd).1 (z ▸ ha)
  · have e1' : (M.m ++ [p])[M.h + n]? = some a := e1
    by_cases lt : n < st.length
    · rw [List.getElem?_append_left (by rw [u.len]; omega)] at e1'
      rw [List.getElem?_append_left lt] at e2
      exact (s.obj n a o (by rw [Pl.hide_at]; exact e1') e2).later later_own rfl
    · rw [List.getElem?_append_right (by rw [u.len]; omega)] at e1'
      rw [List.getElem?_append_right (by omega)] at e2
      have n0 : M.h + n - M.m.length = 0 := by
        have := (List.getElem?_eq_some_iff.mp e1').1
        simp at this
        omega
      have n1 : n - st.length = 0 := by rw [u.len] at n0; omega
      rw [n0] at e1'
      rw [n1] at e2
      cases e1'
      cases e2
      exact ⟨xs, hp, r.later later_own⟩
  · have ha' : a ∈ (M.m ++ [p]).take M.h := ha
    rw [List.take_append_of_le_length (by rw [u.len]; omega)] at ha'
    exact u.hid a ha'
end
structure DIt where
  items : List D
  src : Option (Nat × O)
def okI (I : DIt) (st : DSt) (P : Prop) : Prop := match I.src with | none => P | some (n, xs) => st[n]? = some xs ∧ P
def okS (I : DIt) (st : DSt) : Prop := I.src = none ∨ ∃ n xs, I.src = some (n, xs) ∧ st[n]? = some xs
theorem okI.of {I : DIt} {st : DSt} {P : Prop} (h : okI I st P) : okS I st ∧ P := by
  unfold okI at h
  cases q : I.src with
  | none => rw [q] at h; exact ⟨.inl q, h⟩
  | some n => rw [q] at h; exact ⟨.inr ⟨n.1, n.2, q, h.1⟩, h.2⟩
structure ItOk (T : List (Addr × Str)) (K : Frag) (M : Pl) (H : Hp) (J : It) (I : DIt) : Prop where
  go : ∀ M' H' st', Later M H M' H' → RS T K M' st' H' → okS I st' → ∀ (i : Nat) (d : D), I.items[i]? = some d → J.go i H' ∧ ∀ x H'', J.yld i H' x H'' → Grow M' H' M' H'' ∧ RS T K M' st' H'' ∧ RV K M' H'' d x
  stop : ∀ M' H' st', Later M H M' H' → RS T K M' st' H' → okS I st' → J.stop I.items.length H'
abbrev DTI := DEnv → DSt → (DIt → DSt → Prop) → Prop
def liftI (T : List (Addr × Str)) (K : Frag) (f : DTI) : TI := fun σ H R => ∃ M r st R', RS T K M st H ∧ RE K M H r σ ∧ f r st R' ∧ ∀ M' H' st' J I, Grow M H M' H' → RS T K M' st' H' → R' I st' → ItOk T K M' H' J I → R J H'
theorem PI.imp {X : Cx} {tg e : Expr} {t t' : TI} (h : PI X tg e t) (i : ∀ σ H Q, t' σ H Q → t σ H Q) : PI X tg e t' := ⟨fun pins s σ H Q I z => h.run pins s σ H Q I (i σ H Q z)⟩
abbrev DI (T : List (Addr × Str)) (X : Cx) (tg e : Expr) (f : DTI) : Prop := PI X tg e (liftI T X.K f)
def iSeq (K : Frag) (tl : TE) : TI := fun σ H R => tl σ H fun x H1 => ∃ a, x = .ref a ∧ (((∃ xs, SqL K H1 a xs) ∧ R (Itl K a) H1) ∨ ((∃ xs, SqT K H1 a xs) ∧ R (Itt K a) H1))
section
variable {T : List (Addr × Str)} {X : Cx} {tg : Expr}
theorem pi_seq {l : Expr} {tl : TE} (hl : PE X l tl) : PI X tg l (iSeq X.K tl) := by
  refine ⟨fun pins s σ H R I h => ?_⟩
  refine thn (hl.run pins s σ H _ I h) fun v s1 ⟨x, H1, I1, r1, q1⟩ => ?_
  obtain ⟨a, e, q1⟩ := q1
  subst e
  cases r1
  rcases q1 with ⟨⟨xs, hq⟩, q⟩ | ⟨⟨xs, hq⟩, q⟩
  · obtain ⟨its, rv, p, hz⟩ := I1.list hq
    refine wpAny_pyIter_list p.isList ?_
    refine ⟨s1.heap.objs.size, [s1.heap.objs.size], _, _, H1, rfl, I1.kept (t' := s1.toks) fun b o e => Heap.get?_push_of_some _ e, turn_list a _, ⟨_, Heap.get?_push_size _ rfl, rfl, rfl⟩, fun b hb => ?_, q⟩
    have e : b = s1.heap.objs.size := by simpa using hb
    subst e
    exact I1.fpOk (Nat.le_refl _) (I1.hok.fresh (Nat.le_refl _))
  · obtain ⟨its, rv, p, hz⟩ := I1.tuple hq
    refine wpAny_pyIter_tuple (show s1.heap.IsTuple a its.toArray from p) ?_
    refine ⟨s1.heap.objs.size, [s1.heap.objs.size], _, _, H1, rfl, I1.kept (t' := s1.toks) fun b o e => Heap.get?_push_of_some _ e, turn_tuple a _, ⟨_, Heap.get?_push_size _ rfl, rfl, rfl⟩, fun b hb => ?_, q⟩
    have e : b = s1.heap.objs.size := by simpa using hb
    subst e
    exact I1.fpOk (Nat.le_refl _) (I1.hok.fresh (Nat.le_refl _))
end
def itOf (st : DSt) : D → Option DIt
  | .tup ds => some ⟨ds, none⟩
  | .tuk ds => some ⟨ds, none⟩
  | .lst ds => some ⟨ds, none⟩
  | .scr ds => some ⟨ds, none⟩
  | .ref n => match st[n]? with | some (.lst ds) => some ⟨ds, some (n, .lst ds)⟩ | _ => none
  | _ => none
def wSeq (f : DTE) : DTI := fun r st R => f r st fun d st1 => onO (itOf st1 d) fun I => R I st1
inductive SrcAt (K : Frag) (M : Pl) (H : Hp) (I : DIt) (a : Addr) : Prop
  | lst {xs : List V} : (∀ M' H', Later M H M' H' → SqL K H' a xs) → RVs K M H I.items xs → I.src = none → SrcAt K M H I a
  | tup {xs : List V} : (∀ M' H', Later M H M' H' → SqT K H' a xs) → RVs K M H I.items xs → I.src = none → SrcAt K M H I a
  | ref {n : Nat} : M.at_ n = some a → I.src = some (n, .lst I.items) → SrcAt K M H I a
section
variable {T : List (Addr × Str)} {K : Frag} {M : Pl} {H : Hp} {st : DSt}
theorem itOf.src {d : D} {v : V} {I : DIt} (s : RS T K M st H) (r : RV K M H d v) (e : itOf st d = some I) : ∃ a, v = .ref a ∧ SrcAt K M H I a ∧ okS I st := by
  cases r with
  | tup n h q rs => cases e; exact ⟨_, rfl, .tup (fun M' H' l => .inl (.inr ⟨_, l.keep _ _ n h (fun ps z => by cases z)⟩)) rs rfl, .inl rfl⟩
  | tuk n h rs => cases e; exact ⟨_, rfl, .tup (fun M' H' l => .inl (.inl (l.keep _ _ n h (fun ps z => by cases z)))) rs rfl, .inl rfl⟩
  | lst n h rs => cases e; exact ⟨_, rfl, .lst (fun M' H' l => .inl (Rd.later l n (.inl h))) rs rfl, .inl rfl⟩
  | scr n h rs => cases e; exact ⟨_, rfl, .lst (fun M' H' l => .inl (Rd.later l n h)) rs rfl, .inl rfl⟩
  | lsk h rs => cases e; exact ⟨_, rfl, .lst (fun M' H' l => h H') rs rfl, .inl rfl⟩
  | ref h =>
    obtain ⟨o, e1, ro⟩ := s.atM h
    unfold itOf at e
    simp only [e1] at e
    cases o with
    | lst xs => cases e; exact ⟨_, rfl, .ref h rfl, .inr ⟨_, _, rfl, e1⟩⟩
    | dK _ => cases e
    | dT _ => cases e
    | lk _ _ _ => cases e
  | _ => cases e
theorem SrcAt.rd {I : DIt} {a : Addr} (h : SrcAt K M H I a) {M' : Pl} {H' : Hp} {st' : DSt} (l : Later M H M' H') (s : RS T K M' st' H') (ok : okS I st') :
    ∃ xs, RVs K M' H' I.items xs ∧ (SqL K H' a xs ∨ SqT K H' a xs) := by
  cases h with
  | lst h r e => exact ⟨_, r.later l, .inl (h M' H' l)⟩
  | tup h r e => exact ⟨_, r.later l, .inr (h M' H' l)⟩
  | ref h e =>
    rcases ok with z | ⟨n', ys, z, q⟩
    · rw [e] at z; cases z
    · rw [e] at z
      cases z
      obtain ⟨xs, e1, e2⟩ := s.obj _ a _ (l.get _ _ h) q
      exact ⟨xs, e2, .inl (.inl (.inl e1))⟩
end
end DL
namespace DL
open PySem PySem.Spec PyProof.Rows L2 LamX PySem.W SL
section
variable {T : List (Addr × Str)} {K : Frag} {M : Pl} {H : Hp} {st : DSt} {I : DIt} {a : Addr}
def IsL (T : List (Addr × Str)) (K : Frag) (M : Pl) (H : Hp) (I : DIt) (a : Addr) : Prop := ∀ M' H' st', Later M H M' H' → RS T K M' st' H' → okS I st' → ∃ xs, RVs K M' H' I.items xs ∧ SqL K H' a xs
def IsT (T : List (Addr × Str)) (K : Frag) (M : Pl) (H : Hp) (I : DIt) (a : Addr) : Prop := ∀ M' H' st', Later M H M' H' → RS T K M' st' H' → okS I st' → ∃ xs, RVs K M' H' I.items xs ∧ SqT K H' a xs
theorem SrcAt.lt (h : SrcAt K M H I a) : IsL T K M H I a ∨ IsT T K M H I a := by
  cases h with
  | lst h r e => exact .inl fun M' H' st' l s ok => ⟨_, r.later l, h M' H' l⟩
  | tup h r e => exact .inr fun M' H' st' l s ok => ⟨_, r.later l, h M' H' l⟩
  | ref h e =>
    refine .inl fun M' H' st' l s ok => ?_
    rcases ok with z | ⟨n', ys, z, q⟩
    · rw [e] at z; cases z
    · rw [e] at z
      cases z
      obtain ⟨xs, e1, e2⟩ := s.obj _ a _ (l.get _ _ h) q
      exact ⟨xs, e2, .inl (.inl e1)⟩
theorem IsL.it (h : IsL T K M H I a) : ItOk T K M H (Itl K a) I := by
  refine ⟨fun M' H' st' l s ok i d e => ?_, fun M' H' st' l s ok => ?_⟩
  · obtain ⟨xs, r, q⟩ := h M' H' st' l s ok
    obtain ⟨v, e1, rv⟩ := r.get e
    refine ⟨⟨xs, v, q, e1⟩, fun x H'' y => ?_⟩
    obtain ⟨rfl, y⟩ := y
    have z := y xs q
    rw [e1] at z
    cases z
    exact ⟨Grow.refl _ _, s, rv⟩
  · obtain ⟨xs, r, q⟩ := h M' H' st' l s ok
    exact ⟨xs, q, by rw [r.length]; exact Nat.le_refl _⟩
theorem IsT.it (h : IsT T K M H I a) : ItOk T K M H (Itt K a) I := by
  refine ⟨fun M' H' st' l s ok i d e => ?_, fun M' H' st' l s ok => ?_⟩
  · obtain ⟨xs, r, q⟩ := h M' H' st' l s ok
    obtain ⟨v, e1, rv⟩ := r.get e
    refine ⟨⟨xs, v, q, e1⟩, fun x H'' y => ?_⟩
    obtain ⟨rfl, y⟩ := y
    have z := y xs q
    rw [e1] at z
    cases z
    exact ⟨Grow.refl _ _, s, rv⟩
  · obtain ⟨xs, r, q⟩ := h M' H' st' l s ok
    exact ⟨xs, q, by rw [r.length]; exact Nat.le_refl _⟩
end
theorem Later.refl (M : Pl) (H : Hp) : Later M H M H := (Grow.refl M H).later
section
variable {T : List (Addr × Str)} {X : Cx} {tg e : Expr} {f fa fb : DTE} {pos p : Pos}
theorem di_seq (he : DE T X e f) : DI T X tg e (wSeq f) := PI.imp (pi_seq he) fun σ H R ⟨M, r, st, R', s, re, h, k⟩ => ⟨M, r, st, _, s, re, h, fun M1 H1 st1 d v g1 s1 r1 q => by
  obtain ⟨I, e, q⟩ := onO.of q
  obtain ⟨a, rfl, src, ok⟩ := itOf.src s1 r1 e
  rcases src.lt (T := T) with l | l
  · obtain ⟨xs, _, sq⟩ := l M1 H1 st1 (Later.refl _ _) s1 ok
    exact ⟨a, rfl, .inl ⟨⟨xs, sq⟩, k M1 H1 st1 _ I g1 s1 q l.it⟩⟩
  · obtain ⟨xs, _, sq⟩ := l M1 H1 st1 (Later.refl _ _) s1 ok
    exact ⟨a, rfl, .inr ⟨⟨xs, sq⟩, k M1 H1 st1 _ I g1 s1 q l.it⟩⟩⟩
def rgD (lo : Int) (n : Nat) : List D := (List.range n).map fun i => D.int (lo + (i : Nat))
theorem rgD_get {lo : Int} {n i : Nat} {d : D} (h : (rgD lo n)[i]? = some d) : i < n ∧ d = .int (lo + (i : Nat)) := by
  unfold rgD at h
  rw [List.getElem?_map] at h
  cases q : (List.range n)[i]? with
  | none => rw [q] at h; cases h
  | some j =>
    rw [q] at h
    obtain ⟨l, e⟩ := List.getElem?_eq_some_iff.mp q
    rw [List.getElem_range] at e
    rw [List.length_range] at l
    subst e
    cases h
    exact ⟨l, rfl⟩
theorem rgD_length (lo : Int) (n : Nat) : (rgD lo n).length = n := by unfold rgD; rw [List.length_map, List.length_range]
theorem itok_range {K : Frag} {M : Pl} {H : Hp} {lo : Int} {n : Nat} : ItOk T K M H (Itr lo n) ⟨rgD lo n, none⟩ := by
  refine ⟨fun M' H' st' l s ok i d e => ?_, fun M' H' st' l s ok => ?_⟩
  · obtain ⟨lt, rfl⟩ := rgD_get e
    refine ⟨lt, fun x H'' y => ?_⟩
    obtain ⟨rfl, rfl⟩ := y
    exact ⟨Grow.refl _ _, s, .int _⟩
  · show n ≤ (rgD lo n).length
    rw [rgD_length]
    exact Nat.le_refl _
def wRng1 (fs : DTA) : DTI := fun r st R => fs r st fun ds st1 => on1 ds fun x => onI x fun j => (-(2 ^ 62) ≤ j ∧ j < 2 ^ 62) ∧ R ⟨rgD 0 j.toNat, none⟩ st1
def wRng2 (fs : DTA) : DTI := fun r st R => fs r st fun ds st1 => on2 ds fun x y => onI x fun i => onI y fun j => (-(2 ^ 62) ≤ i ∧ i < 2 ^ 62 ∧ -(2 ^ 62) ≤ j ∧ j < 2 ^ 62) ∧ R ⟨rgD i (j - i).toNat, none⟩ st1
theorem di_range1 {a : Expr} {fs : DTA} (hg : Gl X "range") (hm : X.mg "range" = none) (ha : DA T X [a] fs) (hs : starEach [a] X.env = [(false, eval a X.env)] := by rfl) : DI T X tg (.Call (.Name "range" p) [a] [] pos) (wRng1 fs) :=
  PI.imp (pi_range1 hg hm ha hs) fun σ H R ⟨M, r, st, R', s, re, h, k⟩ => ⟨M, r, st, _, s, re, h, fun M1 H1 st1 ds vs g1 s1 r1 q => by
    obtain ⟨x, rfl, q⟩ := on1.of q
    obtain ⟨j, rfl, b, q⟩ := onI.of q
    obtain ⟨v, rfl, rv⟩ := r1.one
    cases rv
    exact ⟨j, rfl, b.1, b.2, k M1 H1 st1 _ _ g1 s1 q itok_range⟩⟩
end
mutual
def clo (n : Nat) : D → Bool
  | .tup ds => clos n ds
  | .tuk ds => clos n ds
  | .lst ds => clos n ds
  | .scr ds => clos n ds
  | .ref k => decide (k < n)
  | _ => true
def clos (n : Nat) : List D → Bool
  | [] => true
  | d :: ds => clo n d && clos n ds
end
def cloO (n : Nat) : O → Bool
  | .lst ds => clos n ds
  | .dK kvs => clos n (kvs.map (·.2))
  | .dT kvs => clos n (kvs.map (·.2))
  | .lk _ _ kvs => clos n (kvs.map (·.2))
def cloR (n : Nat) (r : DEnv) : Prop := ∀ (i : Nat) (d : D), r[i]? = some (some d) → clo n d = true
def cloS (st0 : DSt) (n : Nat) (st : DSt) : Prop := ∀ (i : Nat) (o : O), i < n → st[i]? = some o → st0[i]? = some o ∨ cloO n o = true
def Less (r r' : DEnv) : Prop := r.length = r'.length ∧ ∀ (i : Nat) (d : D), r[i]? = some (some d) → r'[i]? = some (some d)
theorem Less.refl (r : DEnv) : Less r r := ⟨rfl, fun _ _ h => h⟩
def Pl.cut (M : Pl) (n : Nat) : Pl := ⟨M.h, M.m.take (M.h + n)⟩
section
variable {T : List (Addr × Str)} {K : Frag} {M : Pl} {H : Hp} {st : DSt}
theorem cut_at {n k : Nat} {a : Addr} (h : M.at_ k = some a) (lt : k < n) : (M.cut n).at_ k = some a := by
  unfold Pl.at_ Pl.cut
  show (M.m.take (M.h + n))[M.h + k]? = some a
  rw [List.getElem?_take, if_pos (by omega)]
  exact h
theorem cut_notin {n : Nat} {a : Addr} (h : a ∉ M.m) : a ∉ (M.cut n).m := fun z => h (List.mem_of_mem_take z)
mutual
theorem RV.cut {n : Nat} : ∀ {d : D} {v : V}, RV K M H d v → clo n d = true → RV K (M.cut n) H d v
  | _, _, .non, _ => .non
  | _, _, .bl b, _ => .bl b
  | _, _, .int i, _ => .int i
  | _, _, .str x, _ => .str x
  | _, _, .tup nn h e r, c => .tup (cut_notin nn) h e (r.cut (by simpa [clo] using c))
  | _, _, .tuk nn h r, c => .tuk (cut_notin nn) h (r.cut (by simpa [clo] using c))
  | _, _, .lst nn h r, c => .lst (cut_notin nn) h (r.cut (by simpa [clo] using c))
  | _, _, .scr nn h r, c => .scr (cut_notin nn) h (r.cut (by simpa [clo] using c))
  | _, _, .lsk h r, c => .lsk h (r.cut (by simpa [clo] using c))
  | _, _, .ref h, c => .ref (cut_at h (by simpa [clo] using c))
theorem RVs.cut {n : Nat} : ∀ {d : List D} {v : List V}, RVs K M H d v → clos n d = true → RVs K (M.cut n) H d v
  | _, _, .nil, _ => .nil
  | _, _, .cons h t, c => by
    simp only [clos, Bool.and_eq_true] at c
    exact .cons (h.cut c.1) (t.cut c.2)
end
theorem RO.cut {n : Nat} {o : O} {a : Addr} (h : RO K M H o a) (c : cloO n o = true) : RO K (M.cut n) H o a := by
  cases o with
  | lst ds => obtain ⟨xs, h1, h2⟩ := h; exact ⟨xs, h1, h2.cut c⟩
  | dK kvs => obtain ⟨ys, h1, h2, h3⟩ := h; exact ⟨ys, h1, h2, h3.cut c⟩
  | dT kvs => obtain ⟨ys, h1, h2, h3⟩ := h; exact ⟨ys, h1, h2, h3.cut c⟩
  | lk ob ys kvs => obtain ⟨h1, h2, h3⟩ := h; exact ⟨h1, h2, h3.cut c⟩
mutual
theorem clo_mono {n m : Nat} (l : n ≤ m) : ∀ {d : D}, clo n d = true → clo m d = true
  | .non, _ => by simp [clo]
  | .bl _, _ => by simp [clo]
  | .int _, _ => by simp [clo]
  | .str _, _ => by simp [clo]
  | .tup ds, h => by simp only [clo] at h ⊢; exact clos_mono l h
  | .tuk ds, h => by simp only [clo] at h ⊢; exact clos_mono l h
  | .lst ds, h => by simp only [clo] at h ⊢; exact clos_mono l h
  | .scr ds, h => by simp only [clo] at h ⊢; exact clos_mono l h
  | .ref k, h => by
    simp only [clo, decide_eq_true_eq] at h ⊢
    omega
theorem clos_mono {n m : Nat} (l : n ≤ m) : ∀ {d : List D}, clos n d = true → clos m d = true
  | [], _ => by simp [clos]
  | d :: ds, h => by
    simp only [clos, Bool.and_eq_true] at h ⊢
    exact ⟨clo_mono l h.1, clos_mono l h.2⟩
end
theorem cloO_mono {n m : Nat} (l : n ≤ m) {o : O} (h : cloO n o = true) : cloO m o = true := by
  cases o <;> exact clos_mono l h
mutual
theorem RV.clo {n : Nat} (len : M.m.length = M.h + n) : ∀ {d : D} {v : V}, RV K M H d v → DL.clo n d = true
  | _, _, .non => by simp [DL.clo]
  | _, _, .bl b => by simp [DL.clo]
  | _, _, .int i => by simp [DL.clo]
  | _, _, .str x => by simp [DL.clo]
  | _, _, .tup nn h e r => by simp only [DL.clo]; exact RVs.clo len r
  | _, _, .tuk nn h r => by simp only [DL.clo]; exact RVs.clo len r
  | _, _, .lst nn h r => by simp only [DL.clo]; exact RVs.clo len r
  | _, _, .scr nn h r => by simp only [DL.clo]; exact RVs.clo len r
  | _, _, .lsk h r => by simp only [DL.clo]; exact RVs.clo len r
  | _, _, .ref h => by
    have := (List.getElem?_eq_some_iff.mp h).1
    simp only [DL.clo, decide_eq_true_eq]
    omega
theorem RVs.clo {n : Nat} (len : M.m.length = M.h + n) : ∀ {d : List D} {v : List V}, RVs K M H d v → DL.clos n d = true
  | _, _, .nil => by simp [DL.clos]
  | _, _, .cons h t => by
    simp only [DL.clos, Bool.and_eq_true]
    exact ⟨RV.clo len h, RVs.clo len t⟩
end
theorem RS.clo (s : RS T K M st H) {i : Nat} {o : O} (e : st[i]? = some o) : cloO st.length o = true := by
  obtain ⟨a, _, ro⟩ := s.addr e
  cases o with
  | lst ds => obtain ⟨xs, h1, h2⟩ := ro; exact h2.clo s.len
  | dK kvs => obtain ⟨ys, h1, h2, h3⟩ := ro; exact h3.clo s.len
  | dT kvs => obtain ⟨ys, h1, h2, h3⟩ := ro; exact h3.clo s.len
  | lk ob ys kvs => obtain ⟨h1, h2, h3⟩ := ro; exact h3.clo s.len
theorem cloS.all {M0 : Pl} {H0 : Hp} {st0 : DSt} {n : Nat} (h : cloS st0 n st) (s0 : RS T K M0 st0 H0) (l : st0.length ≤ n) : ∀ (i : Nat) (o : O), i < n → st[i]? = some o → cloO n o = true := fun i o lt e => by
  rcases h i o lt e with q | q
  · exact cloO_mono l (s0.clo q)
  · exact q
theorem RS.cut {n : Nat} (s : RS T K M st H) (l : n ≤ st.length) (c : ∀ (i : Nat) (o : O), i < n → st[i]? = some o → cloO n o = true) : RS T K (M.cut n) (st.take n) H := by
  refine ⟨?_, List.Nodup.sublist (List.take_sublist _ _) s.nd, fun k a o e1 e2 => ?_, s.tabs, fun a ha => s.hid a ?_⟩
  · show (M.m.take (M.h + n)).length = M.h + (st.take n).length
    rw [List.length_take, List.length_take, s.len]
    omega
  · have lt : k < n := by
      have := (List.getElem?_eq_some_iff.mp e2).1
      rw [List.length_take] at this
      omega
    rw [List.getElem?_take, if_pos lt] at e2
    have e1' : (M.m.take (M.h + n))[M.h + k]? = some a := e1
    rw [List.getElem?_take, if_pos (by omega)] at e1'
    exact (s.obj k a o e1' e2).cut (c k o lt e2)
  · have ha' : a ∈ (M.m.take (M.h + n)).take M.h := ha
    rw [List.take_take, Nat.min_eq_left (by omega)] at ha'
    exact ha'
theorem RE.cut {n : Nat} {r r' : DEnv} {σ : L2.St} (re : RE K M H r σ) (l : Less r' r) (c : cloR n r') : RE K (M.cut n) H r' σ :=
  ⟨l.1.trans re.len, fun i d e => by
    obtain ⟨v, e1, e2⟩ := re.at_ i d (l.2 i d e)
    exact ⟨v, e1, e2.cut (c i d e)⟩⟩
theorem Grow.cut {M0 : Pl} {H0 : Hp} {st0 : DSt} {n : Nat} (g : Grow M0 H0 M H) (s0 : RS T K M0 st0 H0) (l : st0.length ≤ n) : Grow M0 H0 (M.cut n) H := by
  refine ⟨?_, g.keep, g.there, g.hid⟩
  obtain ⟨m, rfl, f⟩ := g.more
  refine ⟨m.take (n - st0.length), ?_, fun a ha => f a (List.mem_of_mem_take ha)⟩
  unfold Pl.cut Pl.app
  show Pl.mk M0.h ((M0.m ++ m).take (M0.h + n)) = _
  rw [List.take_append, List.take_of_length_le (by rw [s0.len]; omega), s0.len, show M0.h + n - (M0.h + st0.length) = n - st0.length by omega]
end
def Wk (b : DSt) (P : DEnv → DSt → Prop) : DEnv → DSt → Prop := fun r st => P r st ∨ ∃ r' n, b.length ≤ n ∧ n ≤ st.length ∧ Less r' r ∧ cloR n r' ∧ cloS b n st ∧ P r' (st.take n)
theorem Wk.sound {T : List (Addr × Str)} {K : Frag} {M M0 : Pl} {H H0 : Hp} {st st0 : DSt} {r : DEnv} {σ : L2.St} {P : DEnv → DSt → Prop} (h : Wk st0 P r st) (s0 : RS T K M0 st0 H0) (g : Grow M0 H0 M H) (s : RS T K M st H) (re : RE K M H r σ) :
    ∃ M' r' st', Grow M0 H0 M' H ∧ RS T K M' st' H ∧ RE K M' H r' σ ∧ P r' st' := by
  rcases h with h | ⟨r', n, h1, h2, h3, h4, h5, h6⟩
  · exact ⟨M, r, st, g, s, re, h⟩
  · exact ⟨M.cut n, r', st.take n, g.cut s0 h1, s.cut h2 (h5.all s0 h1), re.cut h3 h4, h6⟩
def forL (I : DIt) (g : DTG) (F : DTS) (E : DEnds) (b : DSt) : List D → DEnv → DSt → Prop
  | [], r, st => okI I st (E.nx r st)
  | d :: ds, r, st => okI I st (g d r st fun r1 st1 => F { nx := Wk b (forL I g F E b ds), rt := E.rt, bk := E.nx, ct := Wk b (forL I g F E b ds) } r1 st1)
def sFor (f : DTI) (g : DTG) (F : DTS) : DTS := fun E r st => f r st fun I st1 => forL I g F E st1 I.items r st1
section
variable {T : List (Addr × Str)} {X : Cx} {tg iter : Expr} {f : DTI} {g : DTG} {F : DTS} {pos : Pos} {vs : List Nat}
theorem ds_for {body : List Stmt} (hp : PassesOwn (model X.prog X.w) X.A X.env X.xe) (hc : X.calm = true) (hi : DI T X tg iter f) (hg : DG T X vs tg g) (hb : DSs T X body F) (hs : ∀ x, foldedSetIterable iter X.env x = pure x := by intro _; rfl) :
    DSt1 T X (.For tg iter body [] pos) (sFor f g F) :=
  PS.imp (ps_for hp hc hi hg hb hs) fun E σ H ⟨M, r, st, E', s, re, h, k⟩ => ⟨M, r, st, _, s, re, h, fun M1 H1 st1 J I g1 s1 q it => by
    refine ⟨fun i m σ' H' => ∃ M' r' st', Grow M1 H1 M' H' ∧ RS T X.K M' st' H' ∧ RE X.K M' H' r' σ' ∧ i ≤ I.items.length ∧ m = I.items.length - i ∧ forL I g F E' st1 (I.items.drop i) r' st', ⟨I.items.length, M1, r, st1, Grow.refl _ _, s1, re.grow g1, Nat.zero_le _, rfl, q⟩, fun i m σ' H' w => ?_⟩
    obtain ⟨M', r', st', gr, s', re', le, rfl, fl⟩ := w
    cases e : I.items.drop i with
    | nil =>
      rw [e] at fl
      obtain ⟨ok, q⟩ := okI.of fl
      have ei : i = I.items.length := by
        have := List.drop_eq_nil_iff.mp e
        omega
      refine .inl ⟨?_, k.nx M' H' σ' r' st' (g1.trans gr) s' re' q⟩
      rw [ei]
      exact it.stop M' H' st' gr.later s' ok
    | cons d ds =>
      rw [e] at fl
      obtain ⟨ok, q⟩ := okI.of fl
      have at_ : I.items[i]? = some d := by
        have z : (I.items.drop i)[0]? = some d := by rw [e]; rfl
        rw [List.getElem?_drop, Nat.add_zero] at z
        exact z
      have lt : i < I.items.length := (List.getElem?_eq_some_iff.mp at_).1
      have ds_ : I.items.drop (i + 1) = ds := by
        have z : (I.items.drop i).drop 1 = ds := by rw [e]; rfl
        rw [List.drop_drop] at z
        exact z
      obtain ⟨go, yl⟩ := it.go M' H' st' gr.later s' ok i d at_
      refine .inr ⟨go, fun σ2 H2 => ∃ M2 r2 st2, Grow M1 H1 M2 H2 ∧ RS T X.K M2 st2 H2 ∧ RE X.K M2 H2 r2 σ2 ∧ forL I g F E' st1 ds r2 st2, fun σ2 H2 ⟨M2, r2, st2, g2, s2, re2, q2⟩ => ⟨I.items.length - (i + 1), by omega, M2, r2, st2, g2, s2, re2, lt, rfl, by rw [ds_]; exact q2⟩, fun x H2 y => ?_⟩
      obtain ⟨g2, s2, r2⟩ := yl x H2 y
      refine ⟨M', r', st', d, _, s2, re'.grow g2, r2, q, fun M3 H3 σ3 r3 st3 g3 s3 re3 _ q3 => ?_⟩
      refine ⟨M3, r3, st3, _, s3, re3, q3, ?_⟩
      have g13 : Grow M1 H1 M3 H3 := (gr.trans g2).trans g3
      refine ⟨fun M4 H4 σ4 r4 st4 g4 s4 re4 q4 => ?_, (k.rt.grow g1).grow g13, (k.nx.grow g1).grow g13, fun M4 H4 σ4 r4 st4 g4 s4 re4 q4 => ?_⟩
      · exact (Wk.sound q4 s1 (g13.trans g4) s4 re4)
      · exact (Wk.sound q4 s1 (g13.trans g4) s4 re4)⟩
def whileL (t : DTT) (F : DTS) (E : DEnds) (b : DSt) : Nat → DEnv → DSt → Prop
  | 0, _, _ => False
  | n + 1, r, st => t r st fun c st1 => if c = true then F { nx := Wk b (whileL t F E b n), rt := E.rt, bk := E.nx, ct := Wk b (whileL t F E b n) } r st1 else E.nx r st1
def sWhile (t : DTT) (F : DTS) : DTS := fun E r st => ∃ n, whileL t F E st n r st
theorem ds_while {c : Expr} {body : List Stmt} {t : DTT} (hp : PassesOwn (model X.prog X.w) X.A X.env X.xe) (hc : DT T X c t) (hb : DSs T X body F) : DSt1 T X (.While c body [] pos) (sWhile t F) :=
  PS.imp (ps_while hp hc hb) fun E σ H ⟨M1, r, st1, E', s1, re, ⟨n, h⟩, k⟩ => by
    refine ⟨fun m σ' H' => ∃ M' r' st', Grow M1 H M' H' ∧ RS T X.K M' st' H' ∧ RE X.K M' H' r' σ' ∧ whileL t F E' st1 m r' st', ⟨n, M1, r, st1, Grow.refl _ _, s1, re, h⟩, fun m σ' H' w => ?_⟩
    obtain ⟨M', r', st', gr, s', re', wl⟩ := w
    cases m with
    | zero => exact wl.elim
    | succ m =>
      refine ⟨M', r', st', _, s', re', wl, fun M2 H2 st2 c g2 s2 q => ?_⟩
      cases c with
      | true =>
        rw [if_pos rfl] at q ⊢
        refine ⟨fun σ3 H3 => ∃ M3 r3 st3, Grow M1 H M3 H3 ∧ RS T X.K M3 st3 H3 ∧ RE X.K M3 H3 r3 σ3 ∧ whileL t F E' st1 m r3 st3, fun σ3 H3 z => ⟨m, Nat.lt_succ_self m, z⟩, M2, r', st2, _, s2, re'.grow g2, q, ?_⟩
        have g12 := gr.trans g2
        exact ⟨fun M4 H4 σ4 r4 st4 g4 s4 re4 q4 => Wk.sound q4 s1 (g12.trans g4) s4 re4, k.rt.grow g12, k.nx.grow g12, fun M4 H4 σ4 r4 st4 g4 s4 re4 q4 => Wk.sound q4 s1 (g12.trans g4) s4 re4⟩
      | false =>
        rw [if_neg (by decide)] at q ⊢
        exact k.nx M2 H2 σ' r' st2 (gr.trans g2) s2 (re'.grow g2) q
end
end DL
namespace DL
open PySem PySem.Spec PyProof.Rows L2 LamX PySem.W SL
def wipeD (r : DEnv) : List Nat → DEnv
  | [] => r
  | v :: vs => (wipeD r vs).set v none
theorem RE.forget {K : Frag} {M : Pl} {H : Hp} {r : DEnv} {σ : L2.St} (h : RE K M H r σ) (i : Nat) (x : Option V) : RE K M H (r.set i none) (σ.set i x) := by
  refine ⟨by rw [List.length_set, List.length_set]; exact h.len, fun j c e => ?_⟩
  by_cases q : j = i
  · subst q
    have lt : j < r.length := by
      have := (List.getElem?_eq_some_iff.mp e).1
      rw [List.length_set] at this
      exact this
    rw [List.getElem?_set_self lt] at e
    cases e
  · rw [List.getElem?_set_ne (fun z => q z.symm)] at e ⊢
    exact h.at_ j c e
theorem RE.wipe {K : Frag} {M : Pl} {H : Hp} {r : DEnv} {σ : L2.St} (h : RE K M H r σ) : ∀ vs : List Nat, RE K M H (wipeD r vs) (L2.wipe σ vs)
  | [] => h
  | v :: vs => (RE.wipe h vs).forget v none
theorem RE.later {K : Frag} {M M' : Pl} {H H' : Hp} {r : DEnv} {σ : L2.St} (h : RE K M H r σ) (g : Later M H M' H') : RE K M' H' r σ :=
  ⟨h.len, fun i d e => by obtain ⟨v, e1, e2⟩ := h.at_ i d e; exact ⟨v, e1, e2.later g⟩⟩
def dtYes : DTT := fun _ st Q => Q true st
def compL (I : DIt) (g : DTG) (tt : DTT) (te : DTE) (r : DEnv) (Q : List D → DSt → Prop) : List D → List D → DSt → Prop
  | [], acc, st => okI I st (Q acc st)
  | d :: ds, acc, st => okI I st (g d r st fun r2 st2 => tt r2 st2 fun b st3 => if b = true then te r2 st3 fun y st4 => compL I g tt te r Q ds (acc ++ [y]) st4 else compL I g tt te r Q ds acc st3)
def dLcG (f : DTI) (g : DTG) (tt : DTT) (te : DTE) (vs : List Nat) (fin : (D → DSt → Prop) → List D → DSt → Prop) : DTE := fun r st Q => f r st fun I st1 => I.items.length ≤ sizeLine ∧ compL I g tt te (wipeD r vs) (fin Q) I.items [] st1
def finT (Q : D → DSt → Prop) (acc : List D) (st : DSt) : Prop := Q (.lst acc) st
def finN (Q : D → DSt → Prop) (acc : List D) (st : DSt) : Prop := Q (.ref st.length) (st ++ [.lst acc])
def FinOk (T : List (Addr × Str)) (K : Frag) (fin : (D → DSt → Prop) → List D → DSt → Prop) : Prop := ∀ (M M' : Pl) (H H' : Hp) (st' : DSt) (p : Addr) (acc : List D) (xs : List V) (Q' : DK) (Q : VK), H p = none → Grow M H M' H' → RS T K (M'.hide p) st' H' →
  H' p = some (.lst xs) → RVs K (M'.hide p) H' acc xs → Kn T K M H Q' Q → fin Q' acc st' → Q (.ref p) H'
theorem finT_ok {T : List (Addr × Str)} {K : Frag} : FinOk T K finT := by
  intro M M' H H' st' p acc xs Q' Q np g s' hp r k q
  exact k M' H' st' (.lst acc) (.ref p) g s'.unhide (.lst (List.nodup_cons.mp s'.nd).1 hp (r.later later_unhide)) q
theorem Grow.andOwn {M M' : Pl} {H H' : Hp} {p : Addr} (g : Grow M H M' H') (np : H p = none) : Grow M H (M'.app [p]) H' := by
  refine ⟨?_, g.keep, g.there, g.hid⟩
  obtain ⟨m, rfl, f⟩ := g.more
  refine ⟨m ++ [p], by unfold Pl.app; simp, fun a ha => ?_⟩
  rcases List.mem_append.mp ha with z | z
  · exact f a z
  · rw [List.mem_singleton.mp z]; exact NT.no np
theorem finN_ok {T : List (Addr × Str)} {K : Frag} : FinOk T K finN := by
  intro M M' H H' st' p acc xs Q' Q np g s' hp r k q
  refine k (M'.app [p]) H' _ _ (.ref p) (g.andOwn np) (s'.own hp r) (.ref ?_) q
  unfold Pl.at_
  show (M'.m ++ [p])[M'.h + st'.length]? = some p
  rw [← s'.unhide.len]
  simp
theorem Grow.step {T : List (Addr × Str)} {K : Frag} {M M1 M2 : Pl} {H H1 H2 : Hp} {st : DSt} {p : Addr} {o : HO} (g : Grow M H M1 H1) (s : RS T K M st H) (np : H p = none) (g2 : Grow (M1.hide p) H1 (M2.hide p) H2) : Grow M H M2 (upd H2 p o) := by
  refine ⟨?_, fun a u n e t => ?_, fun a t => ?_, fun a ha => ?_⟩
  · obtain ⟨m1, rfl, f1⟩ := g.more
    obtain ⟨m2, e, f2⟩ := g2.more
    rw [Pl.hide_app] at e
    have e := Pl.hide_inj e
    subst e
    refine ⟨m1 ++ m2, by unfold Pl.app; simp, fun a ha => ?_⟩
    rcases List.mem_append.mp ha with z | z
    · exact f1 a z
    · exact fun q => f2 a z (g.there a q)
  · have ne : a ≠ p := ne_of_none e np
    rw [upd_ne ne]
    refine g2.keep a u (fun z => ?_) (g.keep a u n e t) t
    rcases List.mem_cons.mp z with z | z
    · exact ne z
    · exact g.notin n ⟨u, e, t⟩ z
  · exact (g2.there a (g.there a t)).upd (t.ne np)
  · obtain ⟨xs, e⟩ := s.hid a ha
    have ne : a ≠ p := ne_of_none e np
    rw [upd_ne ne]
    refine (g2.hid a ?_).trans (g.hid a ha)
    show a ∈ (p :: M1.m).take (M1.h + 1)
    rw [List.take_succ_cons]
    obtain ⟨m1, rfl, f1⟩ := g.more
    exact List.mem_cons_of_mem _ (take_app ha)
theorem upd_self {H : Hp} {p : Addr} {o : HO} (h : H p = some o) : upd H p o = H := by
  funext a
  by_cases z : a = p
  · rw [z, upd_same, h]
  · rw [upd_ne z]
theorem Grow.lateHide {M M' : Pl} {H H' : Hp} {p : Addr} (g : Grow M H M' H') (np : H p = none) : Later M H (M'.hide p) H' := by
  refine ⟨g.keep, fun n a h => by rw [Pl.hide_at]; exact g.get h, fun a n t z => ?_⟩
  rcases List.mem_cons.mp z with z | z
  · exact t.ne np z
  · exact g.notin n t z
theorem hidden_at {M : Pl} {p : Addr} : p ∈ (M.hide p).m.take (M.hide p).h := by
  show p ∈ (p :: M.m).take (M.h + 1)
  rw [List.take_succ_cons]
  exact List.mem_cons_self
theorem grow_hide {M M2 : Pl} {H H2 : Hp} {p : Addr} (g : Grow (M.hide p) H M2 H2) : ∃ N : Pl, M2 = N.hide p := by
  obtain ⟨m, rfl, _⟩ := g.more
  exact ⟨M.app m, Pl.hide_app M p m⟩
theorem RS.push {T : List (Addr × Str)} {K : Frag} {M : Pl} {H : Hp} {st : DSt} {p : Addr} {xs ys : List V} (s : RS T K (M.hide p) st H) (hp : H p = some (.lst xs)) : RS T K (M.hide p) st (upd H p (.lst ys)) ∧ Later (M.hide p) H (M.hide p) (upd H p (.lst ys)) := by
  have l : Later (M.hide p) H (M.hide p) (upd H p (.lst ys)) := ⟨fun a o n e _ => by
    rw [upd_ne fun z => n (by rw [z]; exact List.mem_cons_self)]
    exact e, fun _ _ h => h, fun _ h _ => h⟩
  refine ⟨⟨s.len, s.nd, fun n a o e1 e2 => ?_, tabs_upd s.tabs fun b u hb z => ?_, fun a ha => ?_⟩, l⟩
  · refine (s.obj n a o e1 e2).later l (upd_ne fun z => ?_)
    rw [Pl.hide_at] at e1
    exact (List.nodup_cons.mp s.nd).1 (by rw [← z]; exact Pl.at_mem e1)
  · exact (s.tabNe List.mem_cons_self hb z).symm
  · by_cases z : a = p
    · rw [z]; exact ⟨ys, upd_same⟩
    · rw [upd_ne z]; exact s.hid a ha
theorem wipe_wipe (σ : L2.St) (vs : List Nat) : L2.wipe (L2.wipe σ vs) vs = L2.wipe σ vs := by
  have no : ∀ (ws : List Nat) (τ : L2.St) (i : Nat), (L2.wipe τ ws).set i none = L2.wipe (τ.set i none) ws := by
    intro ws
    induction ws with
    | nil => intro τ i; rfl
    | cons w ws ih =>
      intro τ i
      show ((L2.wipe τ ws).set w none).set i none = (L2.wipe (τ.set i none) ws).set w none
      rw [← ih τ i]
      by_cases e : w = i
      · rw [e]
      · rw [List.set_comm _ _ e]
  induction vs generalizing σ with
  | nil => rfl
  | cons v vs ih =>
    show (L2.wipe ((L2.wipe σ vs).set v none) vs).set v none = (L2.wipe σ vs).set v none
    rw [← no vs (L2.wipe σ vs) v, ih, List.set_set]
theorem lift_lc {T : List (Addr × Str)} {K : Frag} {f : DTI} {g : DTG} {tt : DTT} {te : DTE} {vs : List Nat} {fin : (D → DSt → Prop) → List D → DSt → Prop} (fo : FinOk T K fin) {σ : L2.St} {H : Hp} {Q : VK} (h : lift T K (dLcG f g tt te vs fin) σ H Q) :
    tLc (liftI T K f) (liftG T K vs g) (liftT T K tt) (lift T K te) vs σ H Q := by
  obtain ⟨M, r, st, Q', s, re, h, k⟩ := h
  refine ⟨M, r, st, _, s, re, h, fun M1 H1 st1 J I g1 s1 q it p np => ?_⟩
  obtain ⟨few, q⟩ := q
  refine ⟨fun i m H' => ∃ (M' : Pl) (acc : List D) (xs : List V) (st' : DSt), Grow M1 H1 M' H' ∧ RS T K (M'.hide p) st' H' ∧ H' p = some (.lst xs) ∧ RVs K (M'.hide p) H' acc xs ∧ acc.length ≤ i ∧ i ≤ I.items.length ∧ m = I.items.length - i ∧
      compL I g tt te (wipeD r vs) (fin Q') (I.items.drop i) acc st', ⟨I.items.length, M1, [], [], st1, Grow.new s1.hid np, s1.hide np, upd_same, .nil, Nat.le_refl _, Nat.zero_le _, rfl, q⟩, fun i m H' w => ?_⟩
  obtain ⟨M', acc, xs, st', gr, s', hp, rs, la, le, rfl, cl⟩ := w
  have lat := gr.lateHide np
  have reN : RE K (M'.hide p) H' (wipeD r vs) (L2.wipe σ vs) := ((re.grow g1).wipe vs).later lat
  cases e : I.items.drop i with
  | nil =>
    rw [e] at cl
    obtain ⟨ok, q⟩ := okI.of cl
    have ei : i = I.items.length := by
      have := List.drop_eq_nil_iff.mp e
      omega
    exact .inl ⟨by rw [ei]; exact it.stop _ H' st' lat s' ok, fo M1 M' H1 H' st' p acc xs Q' Q np gr s' hp rs (k.grow g1) q⟩
  | cons d ds =>
    rw [e] at cl
    obtain ⟨ok, q⟩ := okI.of cl
    have at_ : I.items[i]? = some d := by
      have z : (I.items.drop i)[0]? = some d := by rw [e]; rfl
      rw [List.getElem?_drop, Nat.add_zero] at z
      exact z
    have lt : i < I.items.length := (List.getElem?_eq_some_iff.mp at_).1
    have ds_ : I.items.drop (i + 1) = ds := by
      have z : (I.items.drop i).drop 1 = ds := by rw [e]; rfl
      rw [List.drop_drop] at z
      exact z
    obtain ⟨go, yl⟩ := it.go _ H' st' lat s' ok i d at_
    refine .inr ⟨go, fun H2 => ∃ (M2 : Pl) (acc2 : List D) (xs2 : List V) (st2 : DSt), Grow M1 H1 M2 H2 ∧ RS T K (M2.hide p) st2 H2 ∧ H2 p = some (.lst xs2) ∧ RVs K (M2.hide p) H2 acc2 xs2 ∧ acc2.length ≤ i + 1 ∧ compL I g tt te (wipeD r vs) (fin Q') ds acc2 st2,
      fun H2 ⟨M2, acc2, xs2, st2, a1, a2, a3, a4, a5, a6⟩ => ⟨I.items.length - (i + 1), by omega, M2, acc2, xs2, st2, a1, a2, a3, a4, a5, lt, rfl, by rw [ds_]; exact a6⟩, fun x H2 y => ?_⟩
    obtain ⟨g2, s2, r2⟩ := yl x H2 y
    refine ⟨_, wipeD r vs, st', d, _, s2, reN.grow g2, r2, q, fun M3 H3 σ3 r3 st3 g3 s3 re3 w3 q3 => ⟨w3.trans (wipe_wipe σ vs), M3, r3, st3, _, s3, re3, q3, fun M4 H4 st4 b g4 s4 q4 => ?_⟩⟩
    have g24 := (g2.trans g3).trans g4
    cases b with
    | true =>
      rw [if_pos rfl] at q4
      refine iteT ?_
      refine ⟨M4, r3, st4, _, s4, re3.grow g4, q4, fun M5 H5 st5 z vz g5 s5 r5 q5 => ?_⟩
      have g25 := g24.trans g5
      obtain ⟨N5, rfl⟩ := grow_hide g25
      have hp5 : H5 p = some (.lst xs) := (g25.hid p hidden_at).trans hp
      obtain ⟨s6, l6⟩ := s5.push (ys := xs ++ [vz]) hp5
      refine ⟨xs, hp5, ?_, N5, acc ++ [z], xs ++ [vz], st5, gr.step s1 np g25, s6, upd_same, ?_, by rw [List.length_append]; simp; omega, q5⟩
      · rw [← rs.length]; omega
      · exact ((rs.grow g25).later l6).append (.cons (r5.later l6) .nil)
    | false =>
      rw [if_neg (by decide)] at q4
      refine iteF ?_
      obtain ⟨N4, rfl⟩ := grow_hide g24
      have hp4 : H4 p = some (.lst xs) := (g24.hid p hidden_at).trans hp
      refine ⟨N4, acc, xs, st4, ?_, s4, hp4, rs.grow g24, by omega, q4⟩
      have z := gr.step (o := .lst xs) s1 np g24
      rw [upd_self hp4] at z
      exact z
theorem PTs.imp {X : Cx} {e : List Expr} {t t' : TT} (h : PTs X e t) (i : ∀ σ H Q, t' σ H Q → t σ H Q) : PTs X e t' := ⟨fun pins s σ H Q I z => h.run pins s σ H Q I (i σ H Q z)⟩
abbrev DTs (T : List (Addr × Str)) (X : Cx) (e : List Expr) (f : DTT) : Prop := PTs X e (liftT T X.K f)
section
variable {T : List (Addr × Str)} {X : Cx}
theorem dts_nil : DTs T X [] dtYes := PTs.imp pts_nil fun σ H Q ⟨M, r, st, Q', s, re, h, k⟩ => k M H st true (Grow.refl M H) s h
theorem dts_one {c : Expr} {t : DTT} (h : DT T X c t) : DTs T X [c] t := pts_one h
variable {elt tg iter : Expr} {ifs : List Expr} {scope : Scope} {own : List (Str × Nat)} {pos : Pos} {f : DTI} {g : DTG} {tt : DTT} {te : DTE}
theorem de_lcG {fin : (D → DSt → Prop) → List D → DSt → Prop} (fo : FinOk T X.K fin) (hc : X.calm = true) (hN : X.N.Nodup) (hi : DI T X tg iter f) (ok : BlkOk X.N X.env.scope scope own)
    (hg : ∀ (s : Shared) (H : Hp) (C : Addr) (cl : List (Str × Addr)) (fp : List Addr), DG T (X.blk s H scope (compEnvC scope cl C X.env) fp) (own.map (·.2)) tg g) (ht : ∀ (s : Shared) (H : Hp) (C : Addr) (cl : List (Str × Addr)) (fp : List Addr), DTs T (X.blk s H scope (compEnvC scope cl C X.env) fp) ifs tt)
    (he : ∀ (s : Shared) (H : Hp) (C : Addr) (cl : List (Str × Addr)) (fp : List Addr), DE T (X.blk s H scope (compEnvC scope cl C X.env) fp) elt te) (hs : ∀ x, foldedSetIterable iter X.env x = pure x := by intro _; rfl) :
    DE T X (.ListComp elt [⟨tg, iter, ifs, 0⟩] scope pos) (dLcG f g tt te (own.map (·.2)) fin) :=
  PE.imp (pe_lc hc hN hi ok hg ht he hs) fun _ _ _ h => lift_lc fo h
theorem ds_setLcG {i : Nat} {y : Str} {py spos : Pos} {fin : (D → DSt → Prop) → List D → DSt → Prop} (fo : FinOk T X.K fin) (hc : X.calm = true) (hN : X.N.Nodup) (hy : X.N[i]? = some y) (hyl : X.env.scope.names.lookup y = some .local)
    (hsw : swapsWith (.ListComp elt [⟨tg, iter, ifs, 0⟩] scope pos) (some (.Name y py)) spos.line X.env = pure true) (hi : DI T X tg iter f) (ok : BlkOk X.N X.env.scope scope own)
    (hg : ∀ (s : Shared) (H : Hp) (C : Addr) (cl : List (Str × Addr)) (fp : List Addr), DG T (X.blk s H scope (compEnvC scope cl C X.env) fp) (own.map (·.2)) tg g) (ht : ∀ (s : Shared) (H : Hp) (C : Addr) (cl : List (Str × Addr)) (fp : List Addr), DTs T (X.blk s H scope (compEnvC scope cl C X.env) fp) ifs tt)
    (he : ∀ (s : Shared) (H : Hp) (C : Addr) (cl : List (Str × Addr)) (fp : List Addr), DE T (X.blk s H scope (compEnvC scope cl C X.env) fp) elt te) (hs : ∀ x, foldedSetIterable iter X.env x = pure x := by intro _; rfl) :
    DSt1 T X (.Assign [.Name y py] (.ListComp elt [⟨tg, iter, ifs, 0⟩] scope pos) spos) (sSet i (dLcG f g tt te (own.map (·.2)) fin)) :=
  PS.imp (ps_setLc hc hN hy hyl hsw hi ok hg ht he hs) fun E σ H ⟨M, r, st, E', s, re, h, k⟩ =>
    lift_lc fo ⟨M, r, st, _, s, re, h, fun M1 H1 st1 d v g1 s1 r1 q => k.nx M1 H1 _ _ st1 g1 s1 ((re.grow g1).set i r1) q⟩
end
end DL
namespace DL
open PySem PySem.Spec PyProof.Rows L2 LamX PySem.W SL
def spD (T : List (Addr × Str)) (K : Frag) (n : Nat) (g : DRs) : Sp := fun vs H Q _ => vs.length = n ∧ ∃ M st ds Q', RS T K M st H ∧ RVs K M H ds vs ∧ g ds st Q' ∧ Kn T K M H Q' Q
structure FnD (P : Program) (w : World) (K : Frag) (mg : Str → Option Value) (base : Heap) (T : List (Addr × Str)) (k : Nat) (f : Addr) (fd : FuncData) (ps : List Str) (g : DRs) : Prop where
  fn : FnG P w K mg base k f fd ps (spD T K ps.length g)
  ar : ∀ ds st Q, g ds st Q → ds.length = ps.length
mutual
/-- .. its own lists become lists that nobody writes to, at any depth -/
inductive Fz (st : DSt) (n : Nat) : D → D → Prop
  | same {d : D} : clo n d = true → Fz st n d d
  | tup {ds es : List D} : Fzs st n ds es → Fz st n (.tup ds) (.tup es)
  | tuk {ds es : List D} : Fzs st n ds es → Fz st n (.tuk ds) (.tuk es)
  | lst {ds es : List D} : Fzs st n ds es → Fz st n (.lst ds) (.lst es)
  | own {k : Nat} {ds es : List D} : n ≤ k → st[k]? = some (.lst ds) → Fzs st n ds es → Fz st n (.ref k) (.lst es)
inductive Fzs (st : DSt) (n : Nat) : List D → List D → Prop
  | nil : Fzs st n [] []
  | cons {d e : D} {ds es : List D} : Fz st n d e → Fzs st n ds es → Fzs st n (d :: ds) (e :: es)
end
theorem Fzs.same {st : DSt} {n : Nat} : ∀ {ds : List D}, clos n ds = true → Fzs st n ds ds
  | [], _ => .nil
  | d :: ds, h => by
    simp only [clos, Bool.and_eq_true] at h
    exact .cons (.same h.1) (Fzs.same h.2)
theorem notin_cut {T : List (Addr × Str)} {K : Frag} {M : Pl} {H : Hp} {st : DSt} {n m : Nat} {a : Addr} (s : RS T K M st H) (hr : M.at_ n = some a) (le : m ≤ n) : a ∉ (M.cut m).m := by
  intro z
  obtain ⟨i, hi⟩ := List.mem_iff_getElem?.mp z
  have hi' : (M.m.take (M.h + m))[i]? = _ := hi
  rw [List.getElem?_take] at hi'
  split at hi'
  · obtain ⟨l1, q1⟩ := List.getElem?_eq_some_iff.mp hi'
    obtain ⟨l2, q2⟩ := List.getElem?_eq_some_iff.mp hr
    have := (List.getElem_inj s.nd).mp (q1.trans q2.symm)
    omega
  · cases hi'
section
variable {T : List (Addr × Str)} {K : Frag} {M : Pl} {H : Hp} {st : DSt}
mutual
theorem Fz.rv (s : RS T K M st H) {n : Nat} : ∀ {d e : D} {v : V}, Fz st n d e → RV K M H d v → RV K (M.cut n) H e v
  | _, _, _, .same c, r => r.cut c
  | _, _, _, .tup f, .tup a b c r => .tup (cut_notin a) b c (f.rvs s r)
  | _, _, _, .tuk f, .tuk a b r => .tuk (cut_notin a) b (f.rvs s r)
  | _, _, _, .lst f, .lst a b r => .lst (cut_notin a) b (f.rvs s r)
  | _, _, _, .own (ds := ds) le e f, .ref hr => by
    obtain ⟨xs, e1, e2⟩ := s.obj _ _ _ hr e
    exact .lst (notin_cut s hr le) e1 (f.rvs s e2)
theorem Fzs.rvs (s : RS T K M st H) {n : Nat} : ∀ {d e : List D} {v : List V}, Fzs st n d e → RVs K M H d v → RVs K (M.cut n) H e v
  | _, _, _, .nil, .nil => .nil
  | _, _, _, .cons f fs, .cons r rs => .cons (f.rv s r) (fs.rvs s rs)
end
end
def Rt (b : DSt) (Q : DK) : DK := fun d st => Q d st ∨ (∃ n, b.length ≤ n ∧ n ≤ st.length ∧ clo n d = true ∧ cloS b n st ∧ Q d (st.take n)) ∨
  (∃ n d', b.length ≤ n ∧ n ≤ st.length ∧ Fz st n d d' ∧ cloS b n st ∧ Q d' (st.take n))
theorem Rt.sound {T : List (Addr × Str)} {K : Frag} {M M0 : Pl} {H H0 : Hp} {st st0 : DSt} {d : D} {v : V} {Q' : DK} {Q : VK} (h : Rt st0 Q' d st) (s0 : RS T K M0 st0 H0) (k : Kn T K M0 H0 Q' Q) (g : Grow M0 H0 M H) (s : RS T K M st H) (r : RV K M H d v) : Q v H := by
  rcases h with h | ⟨n, h1, h2, h3, h4, h5⟩ | ⟨n, d', h1, h2, h3, h4, h5⟩
  · exact k M H st d v g s r h
  · exact k (M.cut n) H (st.take n) d v (g.cut s0 h1) (s.cut h2 (h4.all s0 h1)) (r.cut h3) h5
  · exact k (M.cut n) H (st.take n) d' v (g.cut s0 h1) (s.cut h2 (h4.all s0 h1)) (h3.rv s r) h5
def startD (n : Nat) (ds : List D) : DEnv := ds.map some ++ List.replicate (n - ds.length) none
theorem RE.start {K : Frag} {M : Pl} {H : Hp} {ds : List D} {vs : List V} (r : RVs K M H ds vs) (N : List Str) : RE K M H (startD N.length ds) (L2.start N vs) := by
  unfold startD L2.start
  refine ⟨by simp [r.length], fun i d e => ?_⟩
  by_cases lt : i < ds.length
  · rw [List.getElem?_append_left (by rw [List.length_map]; exact lt), List.getElem?_map] at e
    rw [List.getElem?_append_left (by rw [List.length_map, ← r.length]; exact lt), List.getElem?_map]
    cases q : ds[i]? with
    | none => rw [q] at e; cases e
    | some y =>
      rw [q] at e
      cases e
      obtain ⟨v, e1, e2⟩ := r.get q
      exact ⟨v, by rw [e1]; rfl, e2⟩
  · rw [List.getElem?_append_right (by rw [List.length_map]; omega), List.getElem?_replicate] at e
    split at e <;> cases e
section
variable {P : Program} {w : World} {K : Frag} {mg : Str → Option Value} {base : Heap} {T : List (Addr × Str)}
theorem fnD_mk {x qual : Str} {st : Stmt} {f : Addr} {fd : FuncData} {N ps : List Str} {k : Nat} {g : DRs} {F' : DTS} (F : Fun K x qual st f fd) (sc : FnScope N ps (defScope st)) (ar : ∀ ds st Q, g ds st Q → ds.length = ps.length)
    (body : ∀ (cdv : Value) (A : Around) (outer : List Env) (s : Shared) (H : Hp) (E : XK), A.guards = some [] → Room k (A.deeper (envOfC qual (defScope st) s.heap.objs.size f cdv)) → DSs T (cxOf CX0 P w K mg base N qual (defScope st) f cdv A outer s H E).nox (defBody st) F')
    (sem : ∀ ds st Q, g ds st Q → F' { nx := fun _ st' => Rt st Q .non st', rt := Rt st Q } (startD N.length ds) st) : FnD P w K mg base T (k + 1) f fd ps g := by
  refine ⟨fnG_mk F sc (fun vs H Q E h => h.1) (fun cdv A outer s H vs Q E gd room h => ⟨_, body cdv A outer s H E gd room, ?_⟩), ar⟩
  obtain ⟨_, M, st', ds, Q', rs, rv, hg, kn⟩ := h
  refine ⟨M, startD N.length ds, st', _, rs, RE.start rv N, sem ds st' Q' hg, ?_⟩
  exact ⟨fun M1 H1 σ1 r1 st1 g1 s1 re1 q => Rt.sound q rs kn g1 s1 .non, fun M1 H1 st1 d v g1 s1 r1 q => Rt.sound q rs kn g1 s1 r1, fun _ _ _ _ _ _ _ _ q => q.elim, fun _ _ _ _ _ _ _ _ q => q.elim⟩
theorem FnD.mono {j k : Nat} {f : Addr} {fd : FuncData} {ps : List Str} {g : DRs} (F : FnD P w K mg base T j f fd ps g) (h : j ≤ k) : FnD P w K mg base T k f fd ps g :=
  ⟨⟨F.fn.size, fun A outer s H args us vs Q E gd room => F.fn.go A outer s H args us vs Q E gd (room.mono h)⟩, F.ar⟩
theorem FnD.imp {k : Nat} {f : Addr} {fd : FuncData} {ps : List Str} {g g' : DRs} (F : FnD P w K mg base T k f fd ps g) (h : ∀ ds st Q, g' ds st Q → g ds st Q) : FnD P w K mg base T k f fd ps g' :=
  ⟨⟨fun vs H Q E q => q.1, fun A outer s H args us vs Q E gd room e0 bd rel q => by
    obtain ⟨l, M, st, ds, Q', rs, rv, hg, kn⟩ := q
    exact F.fn.go A outer s H args us vs Q E gd room e0 bd rel ⟨l, M, st, ds, Q', rs, rv, h _ _ _ hg, kn⟩⟩, fun ds st Q q => F.ar ds st Q (h _ _ _ q)⟩
end
section
variable {T : List (Addr × Str)} {X : Cx} {a b : Expr} {fa fb : DTE} {pos : Pos}
theorem de_call {k : Nat} {f : Addr} {fd : FuncData} {ps : List Str} {g : DRs} {x : Str} {p : Pos} {e : Expr} {es : List Expr} {fs : DTA}
    (F : FnD X.prog X.w X.K X.mg X.base T k f fd ps g) (gd : X.A.guards = some []) (room : Room k X.A) (gl : Gl X x)
    (at_ : X.mg x = some (.ref f)) (keep : PySem.W.keepIn X.K (.ref f) = true) (bd : Binds X.K fd ps []) (args : DA T X (e :: es) fs)
    (h1 : (x == ("__debug__" : Str)) = false := by decide)
    (h2 : starEach (e :: es) X.env = (false, eval e X.env) :: starEach es X.env := by rfl)
    (h3 : (backTo pos (starEach es X.env)).any (·.1) = false := by rfl) :
    DE T X (.Call (.Name x p) (e :: es) [] pos) (dCB g fs) :=
  PE.imp (pe_callG F.fn gd room gl at_ keep bd args h1 h2 h3) fun σ H Q ⟨M, r, st, Q', s, re, h, k⟩ => ⟨M, r, st, _, s, re, h, fun M1 H1 st1 ds vs g1 s1 r1 q => by
    show spD T X.K ps.length g (vs ++ []) H1 Q E0
    rw [List.append_nil]
    exact ⟨by rw [← r1.length]; exact F.ar _ _ _ q, M1, st1, ds, Q', s1, r1, q, k.grow g1⟩⟩
def onL (st : DSt) (d : D) (k : Nat → List D → Prop) : Prop := match d with
  | .ref n => match st[n]? with | some (.lst xs) => k n xs | _ => False
  | _ => False
theorem onL.of {st : DSt} {d : D} {k : Nat → List D → Prop} (h : onL st d k) : ∃ n xs, d = .ref n ∧ st[n]? = some (.lst xs) ∧ k n xs := by
  cases d with
  | ref n =>
    unfold onL at h
    simp only at h
    split at h
    · rename_i xs e; exact ⟨n, xs, rfl, e, h⟩
    · exact h.elim
  | _ => exact h.elim
theorem onL.rd {T : List (Addr × Str)} {K : Frag} {M : Pl} {H : Hp} {st : DSt} {n : Nat} {xs : List D} {v : V} (s : RS T K M st H) (r : RV K M H (.ref n) v) (e : st[n]? = some (.lst xs)) : ∃ a ys, v = .ref a ∧ M.at_ n = some a ∧ H a = some (.lst ys) ∧ RVs K M H xs ys := by
  cases r with
  | ref hm =>
    obtain ⟨ys, e1, e2⟩ := s.obj n _ _ hm e
    exact ⟨_, ys, rfl, hm, e1, e2⟩
theorem Kn.setL {T : List (Addr × Str)} {K : Frag} {M : Pl} {H : Hp} {st : DSt} {Q' : DK} {Q : VK} {n : Nat} {a : Addr} {ds : List D} {ys : List V} {d : D} {v : V} (k : Kn T K M H Q' Q) (s : RS T K M st H) (hm : M.at_ n = some a) (r : RVs K M H ds ys) (rv : RV K M H d v) (q : Q' d (st.set n (.lst ds))) : Q v (upd H a (.lst ys)) := by
  have gw : Grow M H M (upd H a (.lst ys)) := Grow.write s.nd hm
  exact k M _ _ d v gw (s.write (u := .lst ds) hm ⟨ys, upd_same, r.grow gw⟩) (rv.grow gw) q
def MtD (T : List (Addr × Str)) (K : Frag) (r : V → List V → Hp → VK → Prop) (r' : D → List D → DSt → DK → Prop) : Prop := ∀ (M : Pl) (H : Hp) (st : DSt) (x : D) (ds : List D) (v : V) (vs : List V) (Q' : DK) (Q : VK), RS T K M st H → RV K M H x v → RVs K M H ds vs → r' x ds st Q' → Kn T K M H Q' Q → r v vs H Q
def LstD (st : DSt) (x : D) : Prop := match x with | .lst _ => True | .ref n => (match st[n]? with | some (.lst _) => True | _ => False) | _ => False
theorem LstD.ty {K : Frag} {M : Pl} {H : Hp} {st : DSt} {x : D} {v : V} (s : RS T K M st H) (r : RV K M H x v) (h : LstD st x) : tyV K "list" v H := by
  cases r with
  | lst n e rs => exact .inl ⟨rfl, _, .inl (.inl e)⟩
  | scr n e rs => exact h.elim
  | lsk e rs => exact h.elim
  | ref hm =>
    obtain ⟨o, e1, ro⟩ := s.atM hm
    unfold LstD at h
    simp only [e1] at h
    cases o with
    | lst xs => obtain ⟨ys, e2, _⟩ := ro; exact .inl ⟨rfl, ys, .inl (.inl e2)⟩
    | dK _ => exact h.elim
    | dT _ => exact h.elim
    | lk _ _ _ => exact h.elim
  | _ => exact h.elim
def dMtL (r' : D → List D → DSt → DK → Prop) (fo : DTE) (fs : DTA) : DTE := fun r st Q => fo r st fun x st1 => LstD st1 x ∧ fs r st1 fun ds st2 => r' x ds st2 Q
theorem de_bmL {o e : Expr} {es : List Expr} {name : Str} {apos cpos : Pos} {id : String} {r : V → List V → Hp → VK → Prop} {r' : D → List D → DSt → DK → Prop} {fo : DTE} {fs : DTA} (slot : Slot "list" name id) (hty : typeOf (.builtin id) = pure (.type "method_descriptor")) (hm : MtR X id r) (hd : MtD T X.K r r') (ho : DE T X o fo) (ha : DA T X (e :: es) fs)
    (h1 : attributeBase o name X.env (eval o X.env) = eval o X.env := by rfl)
    (h2 : ((backTo cpos (starEach (e :: es) X.env)).all (fun x => !x.1) && (backToKw cpos (keywordEach [] X.env)).all (fun x => x.1.isSome) && decide ((e :: es).length + ([] : List Keyword).length + (if ([] : List Keyword).isEmpty then 0 else 1) < 30)) = true := by rfl)
    (h3 : (apos.endLine == cpos.line) = true := by rfl) (h4 : starEach (e :: es) X.env = (false, eval e X.env) :: starEach es X.env := by rfl) (h5 : (backTo cpos (starEach es X.env)).any (·.1) = false := by rfl) :
    DE T X (.Call (.Attribute o name apos) (e :: es) [] cpos) (dMtL r' fo fs) :=
  PE.imp (pe_bm PySem.F.plainAttrs_list slot hty hm ho ha h1 h2 h3 h4 h5) fun σ H Q ⟨M, ρ, st, Q', s, re, h, k⟩ => ⟨M, ρ, st, _, s, re, h, fun M1 H1 st1 x v g1 s1 r1 q => ⟨q.1.ty s1 r1, M1, ρ, st1, _, s1, re.grow g1, q.2, fun M2 H2 st2 ds vs g2 s2 r2 q2 =>
    hd M2 H2 st2 x ds v vs Q' Q s2 (r1.grow g2) r2 q2 ((k.grow g1).grow g2)⟩⟩
def mAppend : D → List D → DSt → DK → Prop := fun x ds st Q => on1 ds fun y => onL st x fun n xs => xs.length < sizeLine ∧ Q .non (st.set n (.lst (xs ++ [y])))
theorem mtD_append {K : Frag} : MtD T K rAppend mAppend := by
  intro M H st x ds v vs Q' Q s rx rs h k
  obtain ⟨y, rfl, h⟩ := on1.of h
  obtain ⟨n, xs, rfl, e, lt, q⟩ := onL.of h
  obtain ⟨w, rfl, rw'⟩ := rs.one
  obtain ⟨a, ys, rfl, hm, e1, e2⟩ := onL.rd s rx e
  exact ⟨a, ys, w, rfl, rfl, e1, by rw [← e2.length]; exact lt, k.setL s hm (e2.append (.cons rw' .nil)) .non q⟩
def mPopAt : D → List D → DSt → DK → Prop := fun x ds st Q => on1 ds fun y => onI y fun i => onL st x fun n xs => (-(2 ^ 63) ≤ i ∧ i < 2 ^ 63) ∧ onO (seqIndex? i xs.length) fun k => onO xs[k]? fun d => Q d (st.set n (.lst (xs.eraseIdx k)))
theorem mtD_popAt {K : Frag} : MtD T K rPopAt mPopAt := by
  intro M H st x ds v vs Q' Q s rx rs h k
  obtain ⟨y, rfl, h⟩ := on1.of h
  obtain ⟨i, rfl, h⟩ := onI.of h
  obtain ⟨n, xs, rfl, e, lt, q⟩ := onL.of h
  obtain ⟨j, e3, q⟩ := onO.of q
  obtain ⟨d, e4, q⟩ := onO.of q
  obtain ⟨w, rfl, rw'⟩ := rs.one
  cases rw'
  obtain ⟨a, ys, rfl, hm, e1, e2⟩ := onL.rd s rx e
  obtain ⟨z, e5, rz⟩ := e2.get e4
  exact ⟨a, ys, i, j, z, rfl, rfl, e1, lt.1, lt.2, by rw [← e2.length]; exact e3, e5, k.setL s hm (e2.eraseIdx j) rz q⟩
def intsD : List D → Option (List Int)
  | [] => some []
  | .int b :: r => (intsD r).map (b :: ·)
  | _ => none
theorem intsD_of : ∀ {ds : List D} {bs : List Int}, intsD ds = some bs → ds = bs.map D.int
  | [], bs, h => by cases h; rfl
  | .int b :: r, bs, h => by
    unfold intsD at h
    cases q : intsD r with
    | none => rw [q] at h; cases h
    | some cs => rw [q] at h; cases h; rw [intsD_of q]; rfl
  | .non :: r, bs, h => by cases h
  | .bl _ :: r, bs, h => by cases h
  | .str _ :: r, bs, h => by cases h
  | .tup _ :: r, bs, h => by cases h
  | .tuk _ :: r, bs, h => by cases h
  | .lst _ :: r, bs, h => by cases h
  | .scr _ :: r, bs, h => by cases h
  | .ref _ :: r, bs, h => by cases h
theorem intsD_map {α : Type} (g : α → Int) : ∀ xs : List α, intsD (xs.map fun x => D.int (g x)) = some (xs.map g)
  | [] => rfl
  | x :: r => by rw [List.map_cons, List.map_cons]; unfold intsD; rw [intsD_map g r]; rfl
theorem intsD_ints (ns : List Int) : intsD (ns.map D.int) = some ns := by
  have z := intsD_map (fun i : Int => i) ns
  rw [List.map_id'] at z
  exact z
def ixOf (z : Int) : List Int → Option Nat
  | [] => none
  | x :: r => if x = z then some 0 else (ixOf z r).map (· + 1)
theorem ixOf_spec {z : Int} : ∀ {ns : List Int} {j : Nat}, ixOf z ns = some j → ns[j]? = some z ∧ ∀ m, m < j → ns[m]? ≠ some z
  | [], j, h => by cases h
  | x :: r, j, h => by
    unfold ixOf at h
    by_cases e : x = z
    · rw [if_pos e] at h
      cases h
      exact ⟨by rw [e]; rfl, fun m lt => absurd lt (Nat.not_lt_zero m)⟩
    · rw [if_neg e] at h
      cases q : ixOf z r with
      | none => rw [q] at h; cases h
      | some k =>
        rw [q] at h
        cases h
        obtain ⟨a, b⟩ := ixOf_spec q
        refine ⟨a, fun m lt => ?_⟩
        cases m with
        | zero => intro w; cases w; exact e rfl
        | succ m => exact fun w => b m (Nat.lt_of_succ_lt_succ lt) (by simpa using w)
theorem ixOf_mem {z : Int} : ∀ {ns : List Int}, z ∈ ns → ∃ j, ixOf z ns = some j
  | x :: r, h => by
    unfold ixOf
    by_cases e : x = z
    · rw [if_pos e]; exact ⟨0, rfl⟩
    · rw [if_neg e]
      obtain ⟨j, q⟩ := ixOf_mem (List.mem_of_ne_of_mem (fun w => e w.symm) h)
      exact ⟨j + 1, by rw [q]; rfl⟩
def IdxD (st : DSt) (x : D) : Prop := match x with
  | .tup _ => True
  | .lst _ => True
  | .ref n => (match st[n]? with | some (.lst _) => True | _ => False)
  | _ => False
def ixS (st : DSt) : D → Option (List D)
  | .tup xs => some xs
  | .lst xs => some xs
  | .ref n => match st[n]? with | some (.lst ds) => some ds | _ => none
  | _ => none
def mIndex : D → List D → DSt → DK → Prop := fun x ds st Q => on1 ds fun y => onI y fun z => onO (ixS st x) fun xs => onO (intsD xs) fun ns => onO (ixOf z ns) fun j => Q (.int (j : Nat)) st
def dIndex (fo : DTE) (fs : DTA) : DTE := fun r st Q => fo r st fun x st1 => IdxD st1 x ∧ fs r st1 fun ds st2 => mIndex x ds st2 Q
theorem eqV_int (a b : Int) : eqV (.int a) (.int b) = decide (a = b) := by
  by_cases h : a = b
  · subst h; simp [eqV]
  · simp [eqV, h]
theorem flatV_ints (ns : List Int) : (ns.map V.int).all flatV = true := by
  rw [List.all_eq_true]
  intro x hx
  obtain ⟨i, _, rfl⟩ := List.mem_map.mp hx
  rfl
theorem rIndex_ints {K : Frag} {H : Hp} {a : Addr} {ns : List Int} {z : Int} {j : Nat} {Q : VK} (hs : SqL K H a (ns.map V.int)) (e : ixOf z ns = some j) (q : Q (.int (j : Nat)) H) : rIndex K (.ref a) [.int z] H Q := by
  obtain ⟨a1, a2⟩ := ixOf_spec e
  refine ⟨a, _, .int z, j, .int z, rfl, rfl, hs, rfl, flatV_ints ns, by rw [List.getElem?_map, a1]; rfl, by rw [eqV_int]; exact decide_eq_true rfl, fun m z' lt hz => ?_, q⟩
  rw [List.getElem?_map] at hz
  obtain ⟨u, hu, rfl⟩ := Option.map_eq_some_iff.mp hz
  rw [eqV_int]
  exact decide_eq_false fun w => a2 m lt (by rw [hu, w])
def tIdx2 (K : Frag) (to : TE) (t : TA) : TE := fun σ H Q => to σ H fun x H1 => ((∃ p xs, x = .ref p ∧ FzT H1 p xs) ∧ t σ H1 fun vs H2 => rIndexT K x vs H2 Q) ∨ (tyV K "list" x H1 ∧ t σ H1 fun vs H2 => rIndex K x vs H2 Q)
theorem pe_idx2 {o e : Expr} {es : List Expr} {to : TE} {t : TA} {apos cpos : Pos} (ho : PE X o to) (ha : PA X (e :: es) t)
    (h1 : attributeBase o "index" X.env (eval o X.env) = eval o X.env := by rfl)
    (h2 : ((backTo cpos (starEach (e :: es) X.env)).all (fun x => !x.1) && (backToKw cpos (keywordEach [] X.env)).all (fun x => x.1.isSome) && decide ((e :: es).length + ([] : List Keyword).length + (if ([] : List Keyword).isEmpty then 0 else 1) < 30)) = true := by rfl)
    (h3 : (apos.endLine == cpos.line) = true := by rfl) (h4 : starEach (e :: es) X.env = (false, eval e X.env) :: starEach es X.env := by rfl) (h5 : (backTo cpos (starEach es X.env)).any (·.1) = false := by rfl) :
    PE X (.Call (.Attribute o "index" apos) (e :: es) [] cpos) (tIdx2 X.K to t) := by
  constructor
  intro pins s σ H Q I h
  refine wpAny_Call_method_late h1 h2 h3 rfl (thn (ho.run pins s σ H _ I h) ?_)
  rintro v s1 ⟨x, H1, I1, r1, (⟨⟨p, xs, rfl, ob, hp, dn⟩, q1⟩ | ⟨ty, q1⟩)⟩
  · obtain rfl : v = Value.ref p := r1
    obtain ⟨at_, _, its, _, ob2, at2, cl, _⟩ := I1.hok p _ hp
    rw [at_] at at2
    cases at2
    refine ⟨"tuple", _, PySem.F.plainAttrs_tuple, PySem.F.slot_tuple_index, PySem.F.type_tuple_index, ⟨ob, at_, cl⟩, fun a ea => ?_, ?_⟩
    · cases ea
      exact ⟨ob, at_, dn⟩
    · have run := ha.run cpos pins s1 σ H1 _ I1 q1
      rw [h4] at run ⊢
      refine Calls.callWith_builtin (by show (false || (backTo cpos (starEach es X.env)).any (·.1)) = false; rw [h5]; rfl) (Calls.evalArgs_plain ?_)
      refine thn run ?_
      rintro us s2 ⟨vs, H2, I2, r2, q2⟩
      exact mt_tup_indexI pins s2 σ H2 (.ref p) vs _ us Q I2 rfl r2 q2
  · obtain ⟨y1, y2⟩ := tyV_is I1 r1 ty
    refine ⟨"list", _, PySem.F.plainAttrs_list, PySem.F.slot_list_index, PySem.F.type_list_index, y1, y2, ?_⟩
    have run := ha.run cpos pins s1 σ H1 _ I1 q1
    rw [h4] at run ⊢
    refine Calls.callWith_builtin (by show (false || (backTo cpos (starEach es X.env)).any (·.1)) = false; rw [h5]; rfl) (Calls.evalArgs_plain ?_)
    refine thn run ?_
    rintro us s2 ⟨vs, H2, I2, r2, q2⟩
    exact mt_index pins s2 σ H2 x vs v us Q I2 r1 r2 q2
theorem de_index {o e : Expr} {es : List Expr} {apos cpos : Pos} {fo : DTE} {fs : DTA} (ho : DE T X o fo) (ha : DA T X (e :: es) fs)
    (h1 : attributeBase o "index" X.env (eval o X.env) = eval o X.env := by rfl)
    (h2 : ((backTo cpos (starEach (e :: es) X.env)).all (fun x => !x.1) && (backToKw cpos (keywordEach [] X.env)).all (fun x => x.1.isSome) && decide ((e :: es).length + ([] : List Keyword).length + (if ([] : List Keyword).isEmpty then 0 else 1) < 30)) = true := by rfl)
    (h3 : (apos.endLine == cpos.line) = true := by rfl) (h4 : starEach (e :: es) X.env = (false, eval e X.env) :: starEach es X.env := by rfl) (h5 : (backTo cpos (starEach es X.env)).any (·.1) = false := by rfl) :
    DE T X (.Call (.Attribute o "index" apos) (e :: es) [] cpos) (dIndex fo fs) :=
  PE.imp (pe_idx2 ho ha h1 h2 h3 h4 h5) fun σ H Q ⟨M, ρ, st, Q', s, re, h, k⟩ => ⟨M, ρ, st, _, s, re, h, fun M1 H1 st1 x v g1 s1 r1 q => by
    obtain ⟨qt, q⟩ := q
    cases x with
    | tup xs =>
      have r1' := r1
      cases r1 with
      | tup n e0 e3 rs =>
        refine .inl ⟨⟨_, _, rfl, _, e0, e3⟩, M1, ρ, st1, _, s1, re.grow g1, q, fun M2 H2 st2 ds vs g2 s2 r2 q2 => ?_⟩
        obtain ⟨y, rfl, q3⟩ := on1.of q2
        obtain ⟨z, rfl, q4⟩ := onI.of q3
        obtain ⟨xs', e0, q4⟩ := onO.of q4
        cases e0
        obtain ⟨ns, e1, q5⟩ := onO.of q4
        obtain ⟨j, e2, q6⟩ := onO.of q5
        obtain ⟨w, rfl, rw'⟩ := r2.one
        cases rw'
        have e1 := intsD_of e1
        subst e1
        have r3 := r1'.grow g2
        cases r3 with
        | tup n' e0' e3' rs' =>
          have zz := rs'.ints
          subst zz
          obtain ⟨a1, a2⟩ := ixOf_spec e2
          exact ⟨_, ns, z, j, rfl, rfl, .inl (.inr ⟨_, e0'⟩), a1, a2, ((k.grow g1).grow g2).here s2 (.int _) q6⟩
    | lst xs =>
      have r1' := r1
      cases r1 with
      | lst n e0 rs =>
        refine .inr ⟨.inl ⟨rfl, _, .inl (.inl e0)⟩, M1, ρ, st1, _, s1, re.grow g1, q, fun M2 H2 st2 ds vs g2 s2 r2 q2 => ?_⟩
        obtain ⟨y, rfl, q3⟩ := on1.of q2
        obtain ⟨z, rfl, q4⟩ := onI.of q3
        obtain ⟨xs', e0, q4⟩ := onO.of q4
        cases e0
        obtain ⟨ns, e1, q5⟩ := onO.of q4
        obtain ⟨j, e2, q6⟩ := onO.of q5
        obtain ⟨w, rfl, rw'⟩ := r2.one
        cases rw'
        have e1 := intsD_of e1
        subst e1
        have r3 := r1'.grow g2
        cases r3 with
        | lst n' e0' rs' =>
          have zz := rs'.ints
          subst zz
          exact rIndex_ints (.inl (.inl e0')) e2 (((k.grow g1).grow g2).here s2 (.int _) q6)
    | ref m =>
      have r1' := r1
      cases r1 with
      | ref hm =>
        obtain ⟨o1, eo, ro⟩ := s1.atM hm
        unfold IdxD at qt
        simp only [eo] at qt
        cases o1 with
        | dK _ => exact qt.elim
        | dT _ => exact qt.elim
        | lk _ _ _ => exact qt.elim
        | lst zs =>
          obtain ⟨ys, hy, _⟩ := ro
          refine .inr ⟨.inl ⟨rfl, ys, .inl (.inl hy)⟩, M1, ρ, st1, _, s1, re.grow g1, q, fun M2 H2 st2 ds vs g2 s2 r2 q2 => ?_⟩
          obtain ⟨y, rfl, q3⟩ := on1.of q2
          obtain ⟨z, rfl, q4⟩ := onI.of q3
          obtain ⟨xs', e0, q4⟩ := onO.of q4
          obtain ⟨ns, e1, q5⟩ := onO.of q4
          obtain ⟨j, e2, q6⟩ := onO.of q5
          obtain ⟨w, rfl, rw'⟩ := r2.one
          cases rw'
          have e1 := intsD_of e1
          subst e1
          have r3 := r1'.grow g2
          cases r3 with
          | ref hm2 =>
            obtain ⟨o2, eo2, ro2⟩ := s2.atM hm2
            unfold ixS at e0
            simp only [eo2] at e0
            cases o2 with
            | dK _ => cases e0
            | dT _ => cases e0
            | lk _ _ _ => cases e0
            | lst us =>
              cases e0
              obtain ⟨ws, hw, rs'⟩ := ro2
              have zz := rs'.ints
              subst zz
              exact rIndex_ints (.inl (.inl hw)) e2 (((k.grow g1).grow g2).here s2 (.int _) q6)
    | _ => exact qt.elim⟩
end
end DL
namespace DL
open PySem PySem.Spec PyProof.Rows L2 LamX PySem.W SL
theorem mulOne (l : Addr) (its : Array Value) (n : Nat) (dd : Option Addr) (sl : Array (Option Value)) (u : Tok) :
    Meets (Builtin.«tuple.__mul__» ⟨[.ref l, .int 1 u], []⟩) (fun _ R s => s.heap.get? l = some ⟨.type "tuple", dd, .seq its n, sl⟩ ∧ R (.ok (.ret (.ref l))) s) :=
  .of_wp fun prog w A R s h => by
    obtain ⟨hp, g, d, tk, os⟩ := s
    obtain ⟨hl, q⟩ := h
    have f1 := AutoSeq1.idx_int
    wp_walk using wpAny_loadPart' hl
    exact ⟨_, rfl, q⟩
def rRepF (K : Frag) : R2 := fun x y H Q => ∃ (l : Addr) (k : Nat) (xs : List V), x = .ref l ∧ y = .int k ∧ SqT K H l xs ∧ xs ≠ [] ∧ 1 ≤ k ∧ k ≤ 1000 ∧ xs.length ≤ 1000 ∧
  (k = 1 → Q (.ref l) H) ∧ (2 ≤ k → ∀ (p : Addr) (ob : Obj), H p = none → ob.dict = none → Q (.ref p) (upd H p (.frz ob (.tup (List.replicate k xs).flatten))))
theorem op_repF {X : Cx} : OpR X (binaryOp .Mult) (rRepF X.K) := by
  intro pins s σ H x y v u Q I rx ry h
  obtain ⟨l, k, xs, rfl, rfl, hT, hne, k1, k2, hz, q1, q2⟩ := h
  cases rx
  obtain ⟨t, rfl⟩ := ry
  obtain ⟨its, r, ⟨⟨cls, dd, data, sl⟩, ho, hc, n, hd⟩, hs⟩ := I.tuple hT
  simp only at hc hd
  subst hc hd
  have le : its.length = xs.length := r.length.symm
  by_cases e : k = 1
  · subst e
    exact wpAny_binaryOp_repeat_ref (T := "tuple") (U := "int") (by decide)
      ⟨_, ho, rfl⟩ (fun s' => typeIs_int s' _ t) noFill_tuple_mul F.fills_int_mul
      F.slot_int_rmul repeat_tuple F.slot_int_index.lookup
      (call_meets F.slot_int_rmul (typeIs_int s _ t) F.entry_int_rmul
        (F.args_int_rmul_2 _ _) (int_rmul_tuple _ t l its.toArray n dd sl)
        ⟨ho, rfl, ⟨_, ho, rfl⟩, call_meets F.slot_tuple_mul ⟨_, ho, rfl⟩
          F.entry_tuple_mul (F.args_tuple_mul_2 _ _) (mulOne l its.toArray n dd sl t) ⟨ho, .ref l, H, I, rfl, q1 rfl⟩⟩)
  · have two : 2 ≤ k := by omega
    have ne : its.toArray.isEmpty = false := by
      cases its with
      | nil => exact absurd (List.eq_nil_of_length_eq_zero le.symm) hne
      | cons _ _ => rfl
    have sz : its.toArray.size = xs.length := by rw [List.size_toArray, le]
    have nat : xs.length * k ≤ 1000000 := Nat.le_trans (Nat.mul_le_mul hz k2) (by decide)
    have big : ((its.toArray.size : Nat) : Int) * (k : Int) ≤ 1000000 := by
      rw [sz]
      rw [← Int.natCast_mul]
      exact Int.ofNat_le.mpr nat
    have fl : (List.replicate k its).flatten.length ≤ sizeLine := by
      rw [lm_len_rep_flat, le, sizeLine_eq, Nat.mul_comm]
      omega
    have z0 : (decide ((k : Int) < -(2 ^ 63)) || decide ((k : Int) ≥ 2 ^ 63)) = false := by
      rw [Bool.or_eq_false_iff]
      exact ⟨decide_eq_false (by omega), decide_eq_false (by omega)⟩
    have z1 : (its.toArray.isEmpty || (k : Int) == 1) = false := by
      rw [ne]
      exact beq_eq_false_iff_ne.mpr (by omega)
    have z2 : (decide ((k : Int) ≤ 0) || its.toArray.isEmpty) = false := by
      rw [ne, decide_eq_false (by omega)]
      rfl
    have z4 : Builtin.Tuple.tupleTooMany (((its.toArray.size : Nat) : Int) * (k : Int)) = false := by
      unfold Builtin.Tuple.tupleTooMany
      refine decide_eq_false ?_
      rw [sizeLine_eq]
      omega
    refine wpAny_binaryOp_repeat_ref (T := "tuple") (U := "int") (by decide)
      ⟨_, ho, rfl⟩ (fun s' => typeIs_int s' _ t) noFill_tuple_mul F.fills_int_mul
      F.slot_int_rmul repeat_tuple F.slot_int_index.lookup
      (call_meets F.slot_int_rmul (typeIs_int s _ t) F.entry_int_rmul
        (F.args_int_rmul_2 _ _) (int_rmul_tuple _ t l its.toArray n dd sl)
        ⟨ho, rfl, ⟨_, ho, rfl⟩, call_meets F.slot_tuple_mul ⟨_, ho, rfl⟩
          F.entry_tuple_mul (F.args_tuple_mul_2 _ _) (tuple_mulW l its.toArray n dd sl _ t z0 z1 z2 (by omega) z4 (by rw [size_rep, List.size_toArray]; exact fl)) ⟨ho, ?_⟩⟩)
    rw [size_rep]
    refine ⟨.ref s.heap.objs.size, _, I.laid (t' := s.toks) (o := .frz { cls := .type "tuple", data := .seq (List.replicate (k : Int).toNat its).flatten.toArray } (.tup (List.replicate k xs).flatten))
      (fun b ob q => Heap.get?_push_of_some _ q) (Nat.le_refl _) ?_, rfl, q2 two _ _ (I.hok.fresh (Nat.le_refl _)) rfl⟩
    exact ⟨Heap.get?_push_size _ rfl, by rw [lm_len_rep_flat, ← le, ← lm_len_rep_flat]; exact fl, _, r.rep k, IsTup.new _ _⟩
end DL
namespace DL
open PySem PySem.Spec PyProof.Rows L2 LamX PySem.W SL
def lstS (st : DSt) : D → Option (List D)
  | .lst ds => some ds
  | .ref n => match st[n]? with | some (.lst ds) => some ds | _ => none
  | _ => none
section
variable {T : List (Addr × Str)} {X : Cx} {K : Frag} {M : Pl} {H : Hp} {st : DSt}
theorem lstS.rd {d : D} {v : V} {ds : List D} (s : RS T K M st H) (r : RV K M H d v) (e : lstS st d = some ds) : ∃ a xs, v = .ref a ∧ H a = some (.lst xs) ∧ RVs K M H ds xs := by
  cases r with
  | lst n h rs => cases e; exact ⟨_, _, rfl, h, rs⟩
  | ref h =>
    obtain ⟨o, e1, ro⟩ := s.atM h
    unfold lstS at e
    simp only [e1] at e
    cases o with
    | lst xs => cases e; obtain ⟨ys, q, rs⟩ := ro; exact ⟨_, ys, rfl, q, rs⟩
    | dK _ => cases e
    | dT _ => cases e
    | lk _ _ _ => cases e
  | _ => cases e
theorem fin_new' {fin : DK → List D → DSt → Prop} (fo : fin = finT ∨ fin = finN) {ds : List D} {xs : List V} {Q' : DK} {Q : VK} {q : Addr} (k : Kn T K M H Q' Q) (s : RS T K M st H) (r : RVs K M H ds xs) (nq : H q = none) (h : fin Q' ds st) : Q (.ref q) (upd H q (.lst xs)) := by
  rcases fo with rfl | rfl
  · exact k.lst s r nq h
  · exact k.own s r nq h
def mPop : D → List D → DSt → DK → Prop := fun x ds st Q => ds = [] ∧ onL st x fun n xs => onO xs[xs.length - 1]? fun d => Q d (st.set n (.lst xs.dropLast))
theorem RVs.dropLast {ds : List D} {vs : List V} (r : RVs K M H ds vs) : RVs K M H ds.dropLast vs.dropLast := by
  rw [List.dropLast_eq_take, List.dropLast_eq_take, ← r.length]
  exact r.take _
end
end DL
namespace DL
open PySem PySem.Spec PyProof.Rows L2 LamX PySem.W SL
section
variable {T : List (Addr × Str)} {X : Cx} {a b c e : Expr} {es : List Expr} {fa fb fc f : DTE} {fs : DTA} {pos p : Pos} {K : Frag}
def dAddG (fin : DK → List D → DSt → Prop) : DR2 := fun x y st Q => match x, y with
  | .int i, .int j => Q (.int (i + j)) st
  | .tup xs, .tup ys => xs.length + ys.length ≤ sizeLine ∧ Q (.tup (xs ++ ys)) st
  | .str i, .str j => i.length + j.length ≤ sizeLine ∧ Q (.str (i ++ j)) st
  | x, y => onO (lstS st x) fun xs => onO (lstS st y) fun ys => xs.length + ys.length ≤ sizeLine ∧ fin Q (xs ++ ys) st
abbrev dAdd : DR2 := dAddG finT
def rAdd (K : Frag) : R2 := fun x y H Q => ((rI0 fun i j => .int (i + j)) x y H Q ∨ rCatF K x y H Q) ∨ ((∃ i j, x = .str i ∧ y = .str j ∧ i.length + j.length ≤ sizeLine ∧ Q (.str (i ++ j)) H) ∨ rCat x y H Q)
theorem op_addA : OpR X (binaryOp .Add) (rAdd X.K) := OpR.or (OpR.or op_add op_catF) (OpR.or op_add_str op_cat)
theorem opD_add {fin : DK → List D → DSt → Prop} (fo : fin = finT ∨ fin = finN) : OpD T K (rAdd K) (dAddG fin) := by
  intro M H st x y vx vy Q' Q s rx ry h k
  unfold dAddG at h
  split at h
  · cases rx
    cases ry
    exact .inl (.inl ⟨_, _, rfl, rfl, k.here s (.int _) h⟩)
  · obtain ⟨le, q⟩ := h
    have rx' := rx
    have ry' := ry
    cases rx with
    | tup n1 e1 d1 r1 =>
      cases ry with
      | tup n2 e2 d2 r2 =>
        refine .inl (.inr ⟨_, _, _, _, rfl, rfl, .inl (.inr ⟨_, e1⟩), .inl (.inr ⟨_, e2⟩), by rw [← r1.length, ← r2.length]; exact le, fun z => ?_, fun z1 z => ?_, fun z1 z2 p ob np hd => k.tup s (r1.append r2) np hd q⟩)
        · have zz := r1.nil_iff.mpr z
          subst zz
          exact k.here s ry' q
        · have zz := r2.nil_iff.mpr z
          subst zz
          rw [List.append_nil] at q
          exact k.here s rx' q
  · cases rx
    cases ry
    exact .inr (.inl ⟨_, _, rfl, rfl, h.1, k.here s (.str _) h.2⟩)
  · obtain ⟨xs, e1, h⟩ := onO.of h
    obtain ⟨ys, e2, le, q⟩ := onO.of h
    obtain ⟨a, us, rfl, ha, ru⟩ := lstS.rd s rx e1
    obtain ⟨b, ws, rfl, hb, rw'⟩ := lstS.rd s ry e2
    exact .inr (.inr ⟨a, b, us, ws, rfl, rfl, ha, hb, by rw [← ru.length, ← rw'.length]; exact le, fun p np => fin_new' fo k s (ru.append rw') np q⟩)
theorem de_add (ha : DE T X a fa) (hb : DE T X b fb) : DE T X (.BinOp a .Add b pos) (dOp dAdd fa fb) := de_op op_addA (opD_add (.inl rfl)) ha hb
theorem RVs.reverse {M : Pl} {H : Hp} : ∀ {ds : List D} {xs : List V}, RVs K M H ds xs → RVs K M H ds.reverse xs.reverse
  | _, _, .nil => .nil
  | _, _, .cons h t => by
    rw [List.reverse_cons, List.reverse_cons]
    exact (RVs.reverse t).append (.cons h .nil)
theorem RVs.rep {M : Pl} {H : Hp} {ds : List D} {xs : List V} (r : RVs K M H ds xs) : ∀ n : Nat, RVs K M H (List.replicate n ds).flatten (List.replicate n xs).flatten
  | 0 => .nil
  | n + 1 => by
    rw [List.replicate_succ, List.replicate_succ, List.flatten_cons, List.flatten_cons]
    exact r.append (RVs.rep r n)
def dMulG (fin : DK → List D → DSt → Prop) : DR2 := fun x y st Q => match x, y with
  | .int i, .int j => CMul i j ∧ Q (.int (i * j)) st
  | .tup xs, .int k => xs ≠ [] ∧ 1 ≤ k ∧ k ≤ 1000 ∧ xs.length ≤ 1000 ∧ Q (.tup (List.replicate k.toNat xs).flatten) st
  | x, .int k => onO (lstS st x) fun xs => (-1000 ≤ k ∧ xs.length * k.toNat ≤ 1000 ∧ k ≤ 100000000) ∧ fin Q (List.replicate k.toNat xs).flatten st
  | _, _ => False
abbrev dMul : DR2 := dMulG finT
def rMulA (K : Frag) : R2 := fun x y H Q => ((rI CMul fun i j => .int (i * j)) x y H Q ∨ rRepF K x y H Q) ∨ rRep x y H Q
theorem op_mulA : OpR X (binaryOp .Mult) (rMulA X.K) := OpR.or (OpR.or op_mul op_repF) op_rep
theorem opD_mul {fin : DK → List D → DSt → Prop} (fo : fin = finT ∨ fin = finN) : OpD T K (rMulA K) (dMulG fin) := by
  intro M H st x y vx vy Q' Q s rx ry h k
  unfold dMulG at h
  split at h
  · cases rx
    cases ry
    exact .inl (.inl ⟨_, _, rfl, rfl, h.1, k.here s (.int _) h.2⟩)
  · rename_i ds m
    obtain ⟨h1, h2, h3, h4, q⟩ := h
    have rx' := rx
    cases ry
    cases rx with
    | tup n1 e1 d1 r1 =>
      have em : ((m.toNat : Nat) : Int) = m := by omega
      refine .inl (.inr ⟨_, m.toNat, _, rfl, by rw [em], .inl (.inr ⟨_, e1⟩), fun z => h1 (r1.nil_iff.mpr z), by omega, by omega, by rw [← r1.length]; exact h4, fun z => ?_, fun _ p ob np hd => k.tup s (r1.rep m.toNat) np hd q⟩)
      rw [z, List.replicate_one, List.flatten_singleton] at q
      exact k.here s rx' q
  · obtain ⟨xs, e1, ⟨h1, h2, h3⟩, q⟩ := onO.of h
    obtain ⟨a, us, rfl, ha, ru⟩ := lstS.rd s rx e1
    cases ry
    have big : (1000 : Nat) ≤ sizeLine := by decide
    exact .inr ⟨a, _, us, rfl, rfl, ha, by omega, by omega, by rw [← ru.length]; omega, fun p np => fin_new' fo k s (ru.rep _) np q⟩
  · exact h.elim
theorem de_mul (ha : DE T X a fa) (hb : DE T X b fb) : DE T X (.BinOp a .Mult b pos) (dOp dMul fa fb) := de_op op_mulA (opD_mul (.inl rfl)) ha hb
def dRevV (x : D) (st : DSt) (Q : DK) : Prop := match x with
  | .tup xs => Q (.tup xs.reverse) st
  | _ => False
def dRev (f : DTE) : DTE := fun r st Q => f r st fun x st1 => dRevV x st1 Q
abbrev DTO := DEnv → DSt → (Option Int → DSt → Prop) → Prop
def liftO (T : List (Addr × Str)) (K : Frag) (f : DTO) : TO := fun σ H Q => ∃ M r st Q', RS T K M st H ∧ RE K M H r σ ∧ f r st Q' ∧ ∀ M' H' st' o, Grow M H M' H' → RS T K M' st' H' → Q' o st' → Q o H'
abbrev DO (T : List (Addr × Str)) (X : Cx) (e : Option Expr) (f : DTO) : Prop := PO X e (liftO T X.K f)
theorem PO.imp {e : Option Expr} {t t' : TO} (h : PO X e t) (i : ∀ σ H Q, t' σ H Q → t σ H Q) : PO X e t' := ⟨fun pins s σ H Q I z => h.run pins s σ H Q I (i σ H Q z)⟩
def oNone : DTO := fun _ st Q => Q none st
def oSome (f : DTE) : DTO := fun r st Q => f r st fun d st1 => onI d fun i => Q (some i) st1
theorem do_none : DO T X none oNone := PO.imp po_none fun σ H Q ⟨M, r, st, Q', s, re, h, k⟩ => k M H st none (Grow.refl M H) s h
theorem do_some (he : DE T X e f) : DO T X (some e) (oSome f) := PO.imp (po_some he) fun σ H Q ⟨M, r, st, Q', s, re, h, k⟩ => ⟨M, r, st, _, s, re, h, fun M1 H1 st1 d v g1 s1 r1 q => by
  obtain ⟨i, rfl, q⟩ := onI.of q
  cases r1
  exact ⟨i, rfl, k M1 H1 st1 _ g1 s1 q⟩⟩
def cutD (xs : List D) (lo hi : Option Int) : List D := (xs.drop (HT.sIx xs.length 0 lo)).take (HT.sIx xs.length xs.length hi - HT.sIx xs.length 0 lo)
theorem RVs.cutV {M : Pl} {H : Hp} {ds : List D} {vs : List V} (r : RVs K M H ds vs) (lo hi : Option Int) : RVs K M H (cutD ds lo hi) (L2.cutV vs lo hi) := by
  unfold cutD L2.cutV
  rw [r.length]
  exact (r.drop _).take _
def dSlV (fin : DK → List D → DSt → Prop) : D → Option Int → Option Int → DSt → DK → Prop := fun x lo hi st Q => match x with
  | .tup xs => Q (.tup (cutD xs lo hi)) st
  | .lst xs => fin Q (cutD xs lo hi) st
  | .ref n => onO (seqS st (.ref n)) fun xs => fin Q (cutD xs lo hi) st
  | _ => False
def dSlG (fin : DK → List D → DSt → Prop) (f : DTE) (lo hi : DTO) : DTE := fun r st Q => f r st fun x st1 => lo r st1 fun l st2 => hi r st2 fun u st3 => dSlV fin x l u st3 Q
def rSl2 (K : Frag) : V → Option Int → Option Int → Hp → VK → Prop := fun x lo hi H Q => rSlF K x lo hi H Q ∨ rSlL K x lo hi H Q
theorem sl_2 : SlR X (rSl2 X.K) := SlR.or sl_F sl_list
theorem fin_new {fin : DK → List D → DSt → Prop} (fo : fin = finT ∨ fin = finN) {M : Pl} {H : Hp} {st : DSt} {ds : List D} {xs : List V} {Q' : DK} {Q : VK} {q : Addr} (k : Kn T K M H Q' Q) (s : RS T K M st H) (r : RVs K M H ds xs) (nq : H q = none) (h : fin Q' ds st) : Q (.ref q) (upd H q (.lst xs)) := by
  rcases fo with rfl | rfl
  · exact k.lst s r nq h
  · exact k.own s r nq h
theorem cut_whole {xs : List D} {lo hi : Option Int} (h : HT.sIx xs.length 0 lo = 0 ∧ HT.sIx xs.length xs.length hi = xs.length) : cutD xs lo hi = xs := by
  unfold cutD
  rw [h.1, h.2]
  simp
theorem de_slice {fin : DK → List D → DSt → Prop} (fo : fin = finT ∨ fin = finN) {lo hi : Option Expr} {flo fhi : DTO} {p2 : Pos} (he : DE T X e f) (hl : DO T X lo flo) (hu : DO T X hi fhi) : DE T X (.Subscript e (.Slice lo hi none p2) pos) (dSlG fin f flo fhi) :=
  PE.imp (pe_slice sl_2 he hl hu) fun σ H Q ⟨M, r, st, Q', s, re, h, k⟩ => ⟨M, r, st, _, s, re, h, fun M1 H1 st1 x vx g1 s1 r1 q1 => ⟨M1, r, st1, _, s1, re.grow g1, q1, fun M2 H2 st2 l g2 s2 q2 => ⟨M2, r, st2, _, s2, (re.grow g1).grow g2, q2, fun M3 H3 st3 u g3 s3 q3 => by
    have rx := (r1.grow g2).grow g3
    have k3 := ((k.grow g1).grow g2).grow g3
    unfold dSlV at q3
    split at q3
    · have rx' := rx
      cases rx with
      | tup n e0 d0 rs =>
        refine .inl ⟨_, _, rfl, .inl (.inr ⟨_, e0⟩), fun wh => ?_, fun _ p ob np hd => k3.tup s3 (rs.cutV l u) np hd q3⟩
        rw [← rs.length] at wh
        rw [cut_whole wh] at q3
        exact k3.here s3 rx' q3
    · cases rx with
      | lst n e0 rs => exact .inr ⟨_, _, rfl, .inl (.inl e0), fun q nq => fin_new fo k3 s3 (rs.cutV l u) nq q3⟩
    · obtain ⟨xs, e0, q3⟩ := onO.of q3
      cases rx with
      | ref hm =>
        obtain ⟨o, e1, ro⟩ := s3.atM hm
        unfold seqS at e0
        simp only [e1] at e0
        cases o with
        | lst zs => cases e0; obtain ⟨ys, q, rs⟩ := ro; exact .inr ⟨_, ys, rfl, .inl (.inl q), fun q nq => fin_new fo k3 s3 (rs.cutV l u) nq q3⟩
        | dK _ => cases e0
        | dT _ => cases e0
        | lk _ _ _ => cases e0
    · exact q3.elim⟩⟩⟩
def dSortI (fin : DK → List D → DSt → Prop) : DRs := fun ds st Q => on1 ds fun x => onO (seqS st x) fun xs => onO (intsD xs) fun ns => ns.length ≤ 100000 ∧ ∀ out : List Int, out.Perm ns → out.Pairwise (· ≤ ·) → fin Q (out.map D.int) st
def rSort2 (K : Frag) : List V → Hp → VK → Prop := fun vs H Q => rSortedI K vs H Q ∨ rSortT K vs H Q
theorem call_sort2 : CallR X (.builtin "sorted") (rSort2 X.K) := CallR.or cr_sortedI cr_sortT
theorem callD_sort {fin : DK → List D → DSt → Prop} (fo : fin = finT ∨ fin = finN) : CallD T K (rSort2 K) (dSortI fin) := by
  intro M H st ds vs Q' Q s r h k
  obtain ⟨x, rfl, h1⟩ := on1.of h
  obtain ⟨xs, e, h2⟩ := onO.of h1
  obtain ⟨ns, e2, le, h3⟩ := onO.of h2
  have e2 := intsD_of e2
  subst e2
  obtain ⟨v, rfl, rv⟩ := r.one
  obtain ⟨p, ys, rfl, sq, rs⟩ := seqS.rd s rv e
  have z := rs.ints
  subst z
  rcases sq with sq | sq
  · exact .inl ⟨p, ns, rfl, sq, fun out q p1 p2 nq => fin_new fo k s (RVs.of_ints out) nq (h3 out p1 p2)⟩
  · exact .inr ⟨p, ns, rfl, sq, fun out q p1 p2 nq => fin_new fo k s (RVs.of_ints out) nq (h3 out p1 p2)⟩
def dLRg1 (fin : DK → List D → DSt → Prop) (f : DTE) : DTE := fun r st Q => f r st fun x st1 => onI x fun j => RgOk 0 j ∧ fin Q (rgD 0 j.toNat) st1
theorem RVs.of_rg {M : Pl} {H : Hp} (lo : Int) (n : Nat) : RVs K M H (rgD lo n) ((List.range n).map fun i => V.int (lo + (i : Nat))) := by
  unfold rgD
  generalize List.range n = l
  induction l with
  | nil => exact .nil
  | cons i l ih => exact .cons (.int _) ih
theorem de_listRg1 {fin : DK → List D → DSt → Prop} (fo : fin = finT ∨ fin = finN) {p2 pos2 : Pos} (hc : X.calm = true) (hg : Gl X "list") (hm : X.mg "list" = none) (hg2 : Gl X "range") (hm2 : X.mg "range" = none) (ha : DE T X a f)
    (na : starEach [a] X.env = (false, eval a X.env) :: starEach [] X.env := by rfl) (nb : starEach [Expr.Call (.Name "range" p2) [a] [] pos2] X.env = (false, eval (Expr.Call (.Name "range" p2) [a] [] pos2) X.env) :: starEach [] X.env := by rfl) :
    DE T X (.Call (.Name "list" p) [.Call (.Name "range" p2) [a] [] pos2] [] pos) (dLRg1 fin f) :=
  PE.imp (pe_listRg hc hg hm (prg_1 hg2 hm2 ha na) nb) fun σ H Q ⟨M, r, st, Q', s, re, h, k⟩ => ⟨M, r, st, _, s, re, h, fun M1 H1 st1 x vx g1 s1 r1 q1 => by
    obtain ⟨j, rfl, ok, q2⟩ := onI.of q1
    cases r1
    refine ⟨j, rfl, ok, fun q nq => fin_new fo (k.grow g1) s1 ?_ nq q2⟩
    unfold rgV
    rw [Int.sub_zero]
    exact RVs.of_rg 0 j.toNat⟩
def tyN (st : DSt) : D → Option String
  | .non => some "NoneType" | .bl _ => some "bool" | .int _ => some "int" | .str _ => some "str" | .lst _ => some "list" | .scr _ => some "list" | .tup _ => some "tuple" | .tuk _ => some "tuple"
  | .ref n => match st[n]? with | some (.lst _) => some "list" | some (.dK _) => some "dict" | some (.dT _) => some "dict" | some (.lk _ _ _) => some "dict" | none => none
theorem RV.ty {M : Pl} {H : Hp} {st : DSt} {d : D} {v : V} {t : String} (s : RS T K M st H) (r : RV K M H d v) (h : DL.tyN st d = some t) : TyX K H v (.type t) := by
  cases r with
  | non => cases h; exact .base .non
  | bl b => cases h; exact .base (.bl b)
  | int i => cases h; exact .base (.int i)
  | str x => cases h; exact .base (.str x)
  | tup n e d rs => cases h; exact .fTuple e
  | tuk n e rs => cases h; exact .base (.tup e)
  | lst n e rs => cases h; exact .base (.lst e)
  | scr n e rs =>
    cases h
    rcases e with e | ⟨o, e⟩
    · exact .base (.lst e)
    · exact .base (.frz e)
  | lsk e rs =>
    cases h
    rcases e (fun _ => none) with (z | ⟨o, z⟩) | ⟨o, its, n, h1, h2, _⟩
    · cases z
    · cases z
    · exact .kList h1 h2
  | ref hm =>
    obtain ⟨o, e1, ro⟩ := s.atM hm
    unfold DL.tyN at h
    simp only [e1] at h
    cases o with
    | lst zs => cases h; obtain ⟨ys, q, rs⟩ := ro; exact .base (.lst q)
    | dK zs => cases h; obtain ⟨ys, q, rs⟩ := ro; exact .base (.dK q)
    | dT zs => cases h; obtain ⟨ys, q, rs⟩ := ro; exact .base (.dT q)
    | lk ob ys zs => cases h; obtain ⟨q, rs⟩ := ro; exact .fDict q
def subTy (t u : String) : Bool := decide (t = u) || (decide (t = "bool") && decide (u = "int"))
def dIsi (u : String) (f : DTE) : DTE := fun r st Q => f r st fun x st1 => onO (DL.tyN st1 x) fun t => Q (.bl (subTy t u)) st1
end
theorem grow_ext {T : List (Addr × Str)} {K : Frag} {M : Pl} {st : DSt} {H H' : Hp} (s : RS T K M st H) (e : ExtN H H') : Grow M H M H' :=
  ⟨⟨[], (Pl.app_nil M).symm, fun _ h => nomatch h⟩, fun a o _ h t => e a o h t, fun a ⟨o, h, t⟩ => ⟨o, e a o h t, t⟩, fun a ha => by
    obtain ⟨xs, q⟩ := s.hid a ha
    rw [q]
    exact e a _ q (fun ps z => by cases z)⟩
theorem RS.ext {T : List (Addr × Str)} {K : Frag} {M : Pl} {st : DSt} {H H' : Hp} (s : RS T K M st H) (e : ExtN H H') (t : Tabs T H') : RS T K M st H' := by
  refine ⟨s.len, s.nd, fun n a o e1 e2 => ?_, t, s.hid.keep (grow_ext s e)⟩
  have ro := s.obj n a o e1 e2
  refine ro.stay (grow_ext s e) ?_
  rcases ro.mut with ⟨xs, q⟩ | ⟨xs, q⟩ | ⟨xs, q⟩ | ⟨_, xs, q⟩ <;> (rw [q]; exact e _ _ q (fun ps z => by cases z))
theorem RS.same {T : List (Addr × Str)} {K : Frag} {M : Pl} {st : DSt} {H H' : Hp} (s : RS T K M st H) (e : Same H H') : RS T K M st H' := s.ext (ExtN.of e) (s.tabs.ext e)
section
variable {T : List (Addr × Str)} {X : Cx} {a b : Expr} {fa fb : DPE} {pos p : Pos}
end
end DL
namespace DL
open PySem PySem.Spec PyProof.Rows L2 LamX PySem.W SL
section
variable {T : List (Addr × Str)} {X : Cx} {a b c e : Expr} {es : List Expr} {fa fb fc f : DTE} {fs : DTA} {pos p : Pos} {K : Frag}
def dLtG : DR2 := fun x y st Q => match x, y with
  | .int i, .int j => Q (.bl (decide (i < j))) st
  | .tup xs, .tup ys => onO (intsD xs) fun ns => onO (intsD ys) fun ms => Q (.bl (HT.lexLt ns ms)) st
  | _, _ => False
def rLtG (K : Frag) : R2 := fun x y H Q => (rI0 fun i j => .bl (decide (i < j))) x y H Q ∨ rLtT K x y H Q
theorem op_ltG (hu : X.A.units < cLine) : OpR X (compareOp .Lt) (rLtG X.K) := OpR.or op_lt (op_ltT hu)
theorem opD_ltG : OpD T K (rLtG K) dLtG := by
  intro M H st x y vx vy Q' Q s rx ry h k
  unfold dLtG at h
  split at h
  · cases rx
    cases ry
    exact .inl ⟨_, _, rfl, rfl, k.here s (.bl _) h⟩
  · rename_i xs ys
    obtain ⟨ns, e1, h1⟩ := onO.of h
    obtain ⟨ms, e2, h2⟩ := onO.of h1
    have e1 := intsD_of e1
    have e2 := intsD_of e2
    subst e1
    subst e2
    cases rx with
    | tup n1 e1 d1 r1 =>
      cases ry with
      | tup n2 e2 d2 r2 =>
        have z1 := r1.ints
        have z2 := r2.ints
        subst z1
        subst z2
        exact .inr ⟨_, _, ns, ms, rfl, rfl, .inl (.inr ⟨_, e1⟩), .inl (.inr ⟨_, e2⟩), k.here s (.bl _) h2⟩
  · exact h.elim
def perm {α : Type} (ix : List Nat) (xs : List α) : List α := ix.filterMap (xs[·]?)
theorem RVs.perm {M : Pl} {H : Hp} {ds : List D} {vs : List V} (r : RVs K M H ds vs) : ∀ ix : List Nat, RVs K M H (DL.perm ix ds) (DL.perm ix vs)
  | [] => .nil
  | i :: ix => by
    unfold DL.perm
    rw [List.filterMap_cons, List.filterMap_cons]
    cases q : ds[i]? with
    | none =>
      have z : vs[i]? = none := by
        rw [List.getElem?_eq_none_iff] at q ⊢
        rw [← r.length]
        exact q
      rw [z]
      exact RVs.perm r ix
    | some d =>
      obtain ⟨v, e, rv⟩ := r.get q
      rw [e]
      exact .cons rv (RVs.perm r ix)
theorem PK.imp {kws : List Keyword} {t t' : TA} (h : PK X kws t) (i : ∀ σ H Q, t' σ H Q → t σ H Q) : PK X kws t' := ⟨fun pos pins s σ H Q I z => h.run pos pins s σ H Q I (i σ H Q z)⟩
end
end DL
namespace SL
open PySem PySem.Spec PyProof.Rows L2
section
open PySem.AutoSeq1 (wpAny_loadPart')
set_option maxHeartbeats 1000000 in
theorem enum_new (l : Addr) (items : Array Value) : Meets (Builtin.«enumerate.__new__» ⟨[.type "enumerate", .ref l], []⟩) (fun _ R s => s.heap.IsTuple l items ∧
      R (.ok (.ret (.ref (s.heap.push { cls := .type "tuple_iterator", data := .fields #[.ref l, .int 0 0] }).objs.size)))
        { s with heap := (s.heap.push { cls := .type "tuple_iterator", data := .fields #[.ref l, .int 0 0] }).push { cls := .type "enumerate", data := .fields #[.none, .bool false, .ref s.heap.objs.size, rawInt 0, .none, .none] } }) :=
  .of_wp fun prog w A R s hyp => by
    obtain ⟨hp, gens, dr, tk, os⟩ := s
    obtain ⟨isT, goal⟩ := hyp
    have sub := sub_enumerate
    have iter : ∀ {A' : Around} {E : Value → Shared → Prop} {Q : Value → Shared → Prop}, Q (.ref hp.objs.size) ⟨hp.push { cls := .type "tuple_iterator", data := .fields #[.ref l, .int 0 0] }, gens, dr, tk, os⟩ → wpAny (model prog w) A' (pyIter (.ref l)) Q E ⟨hp, gens, dr, tk, os⟩ :=
      fun q => wpAny_pyIter_tuple isT q
    wp_walk using iter
    refine wpAny_stack_any fun st => wpAny_pure ?_
    split
    · rename_i c _ _ _ _ _
      cases (c == Value.type "enumerate") <;> (wp_walk using iter; exact ⟨_, rfl, goal⟩)
    · wp_walk using iter
      exact ⟨_, rfl, goal⟩
end
section
variable {prog : Program} {w : World} {A : Around} {E : Value → Shared → Prop} {s : Shared}
theorem enum_call {l : Addr} {items : Array Value} {Q : Value → Shared → Prop} (isT : s.heap.IsTuple l items)
    (h : ∀ h', IsEnum h' (s.heap.objs.size + 1) s.heap.objs.size 0 .none → h'.IsTupleIter s.heap.objs.size l 0 →
      (∀ b o, s.heap.get? b = some o → h'.get? b = some o) → Q (.ref (s.heap.objs.size + 1)) { s with heap := h' }) :
    wpAny (model prog w) A (call (.type "enumerate") [.ref l]) Q E s := by
  refine callType_new F.called_enumerate (by decide) (F.typeCall_enumerate_1 _) (F.newCall_enumerate_1 _) (fun obj => F.args_object_init_2 obj _) F.entry_enumerate_new (enum_new l items) ⟨isT, ?_⟩
  have hz : (s.heap.push { cls := .type "tuple_iterator", data := .fields #[.ref l, .int 0 0] }).objs.size = s.heap.objs.size + 1 := Heap.size_push ..
  show _ ∧ _
  rw [hz]
  have he : IsEnum ((s.heap.push { cls := .type "tuple_iterator", data := .fields #[.ref l, .int 0 0] }).push
      { cls := .type "enumerate", data := .fields #[.none, .bool false, .ref s.heap.objs.size, rawInt 0, .none, .none] }) (s.heap.objs.size + 1) s.heap.objs.size 0 .none := by
    have z := Heap.get?_push_size (s.heap.push { cls := .type "tuple_iterator", data := .fields #[.ref l, .int 0 0] })
      (o := { cls := .type "enumerate", data := .fields #[.none, .bool false, .ref s.heap.objs.size, rawInt 0, .none, .none] }) rfl
    rw [hz] at z
    exact z
  exact ⟨⟨_, he, rfl⟩, h _ he ⟨_, Heap.get?_push_of_some _ (Heap.get?_push_size _ rfl), rfl, rfl⟩ fun b o x => Heap.get?_push_of_some _ (Heap.get?_push_of_some _ x)⟩
end
def IteT (K : PySem.W.Frag) (a : Addr) : It :=
  ⟨fun i H => ∃ (xs : List V) (x : V), SqT K H a xs ∧ xs[i]? = some x, fun i H v H' => ∃ T x, v = .ref T ∧ H T = none ∧ H' = upd H T (.tup [.int (i : Nat), x]) ∧ ∀ xs, SqT K H a xs → xs[i]? = some x,
    fun i H => ∃ xs : List V, SqT K H a xs ∧ xs.length = i⟩
theorem turn_enumT {P : Program} {w : World} {K : PySem.W.Frag} {elts : List Expr} {kk : Nat} {tpos : Pos} (a e it : Addr) :
    Turn P w K (.Tuple elts kk tpos) (IteT K a) [e, it] e (fun i h => (∃ old, IsEnum h e it ((i : Nat) : Int) old) ∧ h.IsTupleIter it a i ∧ e ≠ it ∧ a ≠ it ∧ a ≠ e) where
  mem := by simp
  obj := by
    rintro i h ⟨⟨old, he⟩, ⟨o, ho, hc, hd⟩, _⟩ b hb
    have cs : b = e ∨ b = it := by simpa using hb
    rcases cs with z | z
    · rw [z]
      exact ⟨_, he, fun v q => nomatch q⟩
    · rw [z]
      exact ⟨o, ho, fun v q => by rw [hd] at q; cases q⟩
  keep := by
    rintro i h h' ⟨⟨old, he⟩, hi, r⟩ k
    exact ⟨⟨old, k e (by simp) _ he⟩, hi.at fun o q => k it (by simp) o q, r⟩
  item := by
    rintro X rfl rfl rfl calm i pins s σ H E I hf ⟨⟨old, he⟩, hit, hne, ai, ae⟩ ⟨xs, x, hq, hx⟩
    obtain ⟨its, rv, ht, hz⟩ := I.tuple hq
    obtain ⟨u, hu, ru⟩ := rv.get hx
    have hel : e < s.heap.objs.size := Heap.lt_size he
    have hil : it < s.heap.objs.size := by
      obtain ⟨_, q, _⟩ := hit
      exact Heap.lt_size q
    have li : i < its.toArray.size := by
      rw [List.size_toArray]
      exact (List.getElem?_eq_some_iff.mp hu).1
    have dr := Draws.tuple (prog := X.prog) (w := X.w) (A := X.A.in1) (show X.A.in1.handled = none from I.ok.hd calm) it a ai its.toArray
    refine wpAny_pyNext_enum_itemD dr he ⟨hit, ht⟩ li hne (by simp [hne, Ne.symm ae]) fun y h' tk hy ho st' hT hsz hk => ?_
    have ey : y = u := by
      have z : its[i]? = some y := by simpa using hy
      rw [hu] at z
      exact (Option.some.inj z).symm
    subst ey
    refine ⟨_, rfl, wpAny_letOwnedTupleGo_enum (s := { s with heap := h', toks := tk + 1 }) ho fun h'' he' sb => ?_⟩
    have hT2 : h''.get? s.heap.objs.size = some { cls := .type "tuple", data := .seq #[.int i tk, y] } := (sb.2 _ (Nat.ne_of_gt hel)).trans hT
    have fresh : ObjOk X.prog X.w (upd H s.heap.objs.size (.tup [.int (i : Nat), x])) h'' s.heap.objs.size (.tup [.int (i : Nat), x]) :=
      ⟨by show 2 ≤ sizeLine; decide, [.int i tk, y], .cons ⟨_, rfl⟩ (.cons ru .nil), ⟨_, hT2, rfl, _, rfl⟩⟩
    have I1 : Inv X pins σ (upd H s.heap.objs.size (.tup [.int (i : Nat), x])) { s with heap := h'', toks := tk + 1 } :=
      I.turnedNew (ch := [e, it]) (fun b ob hb q => (sb.2 b (fun z => hb (by simp [z]))).trans (hk b ob (fun z => hb (by simp [z])) (fun z => hb (by simp [z])) q)) hf (Nat.le_refl _) fresh
    refine ⟨.ref s.heap.objs.size, _, I1, rfl, ⟨_, x, rfl, I.hok.fresh (Nat.le_refl _), rfl, fun ys hy => by rw [I.tuple_inj hy hq]; exact hx⟩, ⟨⟨y, ?_⟩, st'.1.at fun o q => (sb.2 it (Ne.symm hne)).trans q, hne, ai, ae⟩, fun b hb => ?_⟩
    · rw [show ((i + 1 : Nat) : Int) = (i : Int) + 1 by omega]
      exact he'
    · have hb' : b < s.heap.objs.size := by
        have cs : b = e ∨ b = it := by simpa using hb
        rcases cs with z | z
        · rw [z]
          exact hel
        · rw [z]
          exact hil
      rw [upd_ne (Nat.ne_of_lt hb')]
      exact (hf b hb).1
  done := by
    rintro X rfl rfl rfl calm i pins s σ H E I hf ⟨⟨old, he⟩, hit, hne, ai, ae⟩ ⟨xs, hq, hx⟩
    obtain ⟨its, rv, ht, hz⟩ := I.tuple hq
    obtain ⟨f0, f1, f2, f3, f4, f5⟩ := hf it (by simp)
    have si : its.toArray.size = i := by rw [List.size_toArray, ← rv.length]; exact hx
    have dr := Draws.tuple (prog := X.prog) (w := X.w) (A := X.A.in1) (show X.A.in1.handled = none from I.ok.hd calm) it a ai its.toArray
    exact wpAny_pyNext_enum_endD dr he ⟨by rw [si]; exact hit, ht⟩ fun h' eb => ⟨rfl, I.turned (t' := s.toks) (fun b o hb q => eb b o hb q) f0 f1 f3 f4 f5⟩
  self := fun A i s Q E st h => let ⟨⟨_, he⟩, _⟩ := st; wpAny_pyIter_enum he h
def iEnum2 (K : PySem.W.Frag) (ta : TA) : TI := fun σ H R => ta σ H fun vs H1 => ∃ a, vs = [.ref a] ∧ (((∃ xs, SqL K H1 a xs) ∧ R (Ite K a) H1) ∨ ((∃ xs, SqT K H1 a xs) ∧ R (IteT K a) H1))
theorem pi_enum2 {X : Cx} {e : Expr} {ta : TA} {p pos tpos : Pos} {elts : List Expr} {kk : Nat} (g1 : Gl X "enumerate") (m1 : X.mg "enumerate" = none) (ha : PA X [e] ta) (one : starEach [e] X.env = [(false, eval e X.env)] := by rfl) :
    PI X (.Tuple elts kk tpos) (.Call (.Name "enumerate" p) [e] [] pos) (iEnum2 X.K ta) := by
  constructor
  intro pins s σ H R I h
  refine Call_ (ld_blt I g1 m1 boot_enumerate (callWith_type1 (thn (ha.run pos pins s σ H _ I h) ?_) one rfl))
  rintro us s1 ⟨vs, H1, I1, r1, a, rfl, (⟨⟨xs, hq⟩, q⟩ | ⟨⟨xs, hq⟩, q⟩)⟩
  · cases r1 with
    | cons r rr =>
      cases rr
      cases r
      obtain ⟨its, rv, p', hz⟩ := I1.list hq
      refine call_enumerate_list p'.isList fun h' he hit hsz hk => wpAny_pyIter_enum he ?_
      have I2 : Inv X pins σ H1 { s1 with heap := h' } := I1.kept (t' := s1.toks) hk
      refine ⟨s1.heap.objs.size + 1, [s1.heap.objs.size + 1, s1.heap.objs.size], _, _, H1, rfl, I2, turn_enum a (s1.heap.objs.size + 1) s1.heap.objs.size, ⟨⟨.none, he⟩, hit, Nat.succ_ne_self _⟩, fun b hb => ?_, q⟩
      have cs : b = s1.heap.objs.size + 1 ∨ b = s1.heap.objs.size := by simpa using hb
      have hle : s1.heap.objs.size ≤ b := by
        rcases cs with z | z
        · rw [z]
          exact Nat.le_succ _
        · rw [z]
          exact Nat.le_refl _
      exact I1.fpOk hle (I1.hok.fresh hle)
  · cases r1 with
    | cons r rr =>
      cases rr
      cases r
      obtain ⟨its, rv, ht, hz⟩ := I1.tuple hq
      have ht' : s1.heap.IsTuple a its.toArray := ht
      have al : a < s1.heap.objs.size := by obtain ⟨_, e, _⟩ := ht'; exact Heap.lt_size e
      refine enum_call ht' fun h' he hit kept => wpAny_pyIter_enum he ?_
      have I2 : Inv X pins σ H1 { s1 with heap := h' } := I1.kept (t' := s1.toks) kept
      refine ⟨s1.heap.objs.size + 1, [s1.heap.objs.size + 1, s1.heap.objs.size], _, _, H1, rfl, I2, turn_enumT a (s1.heap.objs.size + 1) s1.heap.objs.size, ⟨⟨.none, he⟩, hit, Nat.succ_ne_self _, Nat.ne_of_lt al, Nat.ne_of_lt (Nat.lt_succ_of_lt al)⟩, fun b hb => ?_, q⟩
      have cs : b = s1.heap.objs.size + 1 ∨ b = s1.heap.objs.size := by simpa using hb
      have hle : s1.heap.objs.size ≤ b := by
        rcases cs with z | z
        · rw [z]
          exact Nat.le_succ _
        · rw [z]
          exact Nat.le_refl _
      exact I1.fpOk hle (I1.hok.fresh hle)
end SL
namespace DL
open PySem PySem.Spec PyProof.Rows L2 LamX PySem.W SL RZ
def enumD (xs : List D) : List D := xs.zipIdx.map fun p => D.tuk [.int (p.2 : Nat), p.1]
theorem enumD_get {xs : List D} {i : Nat} {d : D} (h : (enumD xs)[i]? = some d) : ∃ x, xs[i]? = some x ∧ d = .tuk [.int (i : Nat), x] := by
  unfold enumD at h
  rw [List.getElem?_map, List.getElem?_zipIdx] at h
  cases q : xs[i]? with
  | none => rw [q] at h; cases h
  | some x => rw [q] at h; cases h; exact ⟨x, rfl, by rw [Nat.zero_add]⟩
theorem enumD_length (xs : List D) : (enumD xs).length = xs.length := by unfold enumD; rw [List.length_map, List.length_zipIdx]
theorem okS_src {I J : DIt} {st : DSt} (e : I.src = J.src) (h : okS I st) : okS J st := by
  unfold okS at h ⊢
  rw [← e]
  exact h
section
variable {T : List (Addr × Str)} {K : Frag} {M : Pl} {H : Hp} {st : DSt} {I : DIt} {a : Addr}
theorem IsL.enum (h : IsL T K M H I a) : ItOk T K M H (Ite K a) ⟨enumD I.items, I.src⟩ := by
  refine ⟨fun M' H' st' l s ok i d e => ?_, fun M' H' st' l s ok => ?_⟩
  · obtain ⟨xs, r, q⟩ := h M' H' st' l s (okS_src rfl ok)
    obtain ⟨x, e1, rfl⟩ := enumD_get e
    obtain ⟨v, e2, rv⟩ := r.get e1
    refine ⟨⟨xs, v, q, e2⟩, fun y H'' z => ?_⟩
    obtain ⟨p, w, rfl, np, rfl, z⟩ := z
    have zz := z xs q
    rw [e2] at zz
    cases zz
    have g : Grow M' H' M' (upd H' p (.tup [.int (i : Nat), v])) := Grow.new s.hid np
    exact ⟨g, s.new np, .tuk (s.notin np) upd_same (.cons (.int _) (.cons (rv.grow g) .nil))⟩
  · obtain ⟨xs, r, q⟩ := h M' H' st' l s (okS_src rfl ok)
    exact ⟨xs, q, by rw [enumD_length, r.length]; exact Nat.le_refl _⟩
theorem IsT.enum (h : IsT T K M H I a) : ItOk T K M H (IteT K a) ⟨enumD I.items, I.src⟩ := by
  refine ⟨fun M' H' st' l s ok i d e => ?_, fun M' H' st' l s ok => ?_⟩
  · obtain ⟨xs, r, q⟩ := h M' H' st' l s (okS_src rfl ok)
    obtain ⟨x, e1, rfl⟩ := enumD_get e
    obtain ⟨v, e2, rv⟩ := r.get e1
    refine ⟨⟨xs, v, q, e2⟩, fun y H'' z => ?_⟩
    obtain ⟨p, w, rfl, np, rfl, z⟩ := z
    have zz := z xs q
    rw [e2] at zz
    cases zz
    have g : Grow M' H' M' (upd H' p (.tup [.int (i : Nat), v])) := Grow.new s.hid np
    exact ⟨g, s.new np, .tuk (s.notin np) upd_same (.cons (.int _) (.cons (rv.grow g) .nil))⟩
  · obtain ⟨xs, r, q⟩ := h M' H' st' l s (okS_src rfl ok)
    exact ⟨xs, q, by rw [enumD_length, r.length]⟩
end
def itL (st : DSt) : D → Option DIt
  | .lst ds => some ⟨ds, none⟩
  | .scr ds => some ⟨ds, none⟩
  | .ref n => match st[n]? with | some (.lst ds) => some ⟨ds, some (n, .lst ds)⟩ | _ => none
  | _ => none
def itT : D → Option DIt
  | .tup ds => some ⟨ds, none⟩
  | .tuk ds => some ⟨ds, none⟩
  | _ => none
section
variable {T : List (Addr × Str)} {K : Frag} {M : Pl} {H : Hp} {st : DSt}
theorem itL.is {d : D} {v : V} {I : DIt} (s : RS T K M st H) (r : RV K M H d v) (e : itL st d = some I) : ∃ a, v = .ref a ∧ IsL T K M H I a ∧ okS I st := by
  cases r with
  | lst n h rs => cases e; exact ⟨_, rfl, fun M' H' st' l s ok => ⟨_, rs.later l, .inl (Rd.later l n (.inl h))⟩, .inl rfl⟩
  | scr n h rs => cases e; exact ⟨_, rfl, fun M' H' st' l s ok => ⟨_, rs.later l, .inl (Rd.later l n h)⟩, .inl rfl⟩
  | lsk h rs => cases e; exact ⟨_, rfl, fun M' H' st' l s ok => ⟨_, rs.later l, h H'⟩, .inl rfl⟩
  | ref h =>
    obtain ⟨o, e1, ro⟩ := s.atM h
    unfold itL at e
    simp only [e1] at e
    cases o with
    | lst xs =>
      cases e
      refine ⟨_, rfl, fun M' H' st' l s ok => ?_, .inr ⟨_, _, rfl, e1⟩⟩
      rcases ok with z | ⟨n', ys, z, q⟩
      · cases z
      · cases z
        obtain ⟨xs, e1, e2⟩ := s.obj _ _ _ (l.get _ _ h) q
        exact ⟨xs, e2, .inl (.inl e1)⟩
    | dK _ => cases e
    | dT _ => cases e
    | lk _ _ _ => cases e
  | _ => cases e
theorem itT.is {d : D} {v : V} {I : DIt} (r : RV K M H d v) (e : itT d = some I) : ∃ a, v = .ref a ∧ IsT T K M H I a ∧ I.src = none := by
  cases r with
  | tup n h q rs => cases e; exact ⟨_, rfl, fun M' H' st' l s ok => ⟨_, rs.later l, .inl (.inr ⟨_, l.keep _ _ n h (fun ps z => by cases z)⟩)⟩, rfl⟩
  | tuk n h rs => cases e; exact ⟨_, rfl, fun M' H' st' l s ok => ⟨_, rs.later l, .inl (.inl (l.keep _ _ n h (fun ps z => by cases z)))⟩, rfl⟩
  | _ => cases e
end
def wEnum (fs : DTA) : DTI := fun r st R => fs r st fun ds st1 => on1 ds fun x => onO (itOf st1 x) fun I => R ⟨enumD I.items, I.src⟩ st1
def zipD (xs ys : List D) : List D := (xs.zip ys).map fun p => D.tuk [p.1, p.2]
def wZip (fs : DTA) : DTI := fun r st R => fs r st fun ds st1 => on2 ds fun x y => onO (itT x) fun I => onO (itT y) fun J => R ⟨zipD I.items J.items, none⟩ st1
section
variable {T : List (Addr × Str)} {X : Cx} {e e2 : Expr} {fs : DTA} {p pos tpos : Pos} {elts : List Expr} {kk : Nat}
theorem di_enum (hg : Gl X "enumerate") (hm : X.mg "enumerate" = none) (ha : DA T X [e] fs) (hs : starEach [e] X.env = [(false, eval e X.env)] := by rfl) : DI T X (.Tuple elts kk tpos) (.Call (.Name "enumerate" p) [e] [] pos) (wEnum fs) :=
  PI.imp (pi_enum2 hg hm ha hs) fun σ H R ⟨M, r, st, R', s, re, h, k⟩ => ⟨M, r, st, _, s, re, h, fun M1 H1 st1 ds vs g1 s1 r1 q => by
    obtain ⟨x, rfl, q1⟩ := on1.of q
    obtain ⟨I, e, q2⟩ := onO.of q1
    obtain ⟨v, rfl, rv⟩ := r1.one
    obtain ⟨a, rfl, src, ok⟩ := itOf.src s1 rv e
    rcases src.lt (T := T) with l | l
    · obtain ⟨xs, _, sq⟩ := l M1 H1 st1 (Later.refl _ _) s1 ok
      exact ⟨a, rfl, .inl ⟨⟨xs, sq⟩, k M1 H1 st1 _ _ g1 s1 q2 l.enum⟩⟩
    · obtain ⟨xs, _, sq⟩ := l M1 H1 st1 (Later.refl _ _) s1 ok
      exact ⟨a, rfl, .inr ⟨⟨xs, sq⟩, k M1 H1 st1 _ _ g1 s1 q2 l.enum⟩⟩⟩
end
end DL
namespace DL
open PySem PySem.Spec PyProof.Rows L2 LamX PySem.W SL
def compI (I : DIt) (g : DTG) (tt : DTT) (te : DTE) (r : DEnv) (Nx : List D → DSt → Prop) : List D → List D → DSt → Prop
  | [], acc, st => okI I st (Nx acc st)
  | d :: ds, acc, st => okI I st (g d r st fun r2 st2 => tt r2 st2 fun b st3 => if b = true then te r2 st3 fun y st4 => acc.length < sizeLine ∧ compI I g tt te r Nx ds (acc ++ [y]) st4 else compI I g tt te r Nx ds acc st3)
def comp2 (I : DIt) (g : DTG) (tt : DTT) (f1 : DTI) (g1 : DTG) (tt1 : DTT) (te : DTE) (r : DEnv) (vs1 : List Nat) (Q : List D → DSt → Prop) : List D → List D → DSt → Prop
  | [], acc, st => okI I st (Q acc st)
  | d :: ds, acc, st => okI I st (g d r st fun r2 st2 => tt r2 st2 fun b st3 => if b = true then f1 r2 st3 fun I1 st4 => compI I1 g1 tt1 te (wipeD r2 vs1) (comp2 I g tt f1 g1 tt1 te r vs1 Q ds) I1.items acc st4 else comp2 I g tt f1 g1 tt1 te r vs1 Q ds acc st3)
def dLc2G (f : DTI) (g : DTG) (tt : DTT) (f1 : DTI) (g1 : DTG) (tt1 : DTT) (te : DTE) (vs vs1 : List Nat) (fin : (D → DSt → Prop) → List D → DSt → Prop) : DTE := fun r st Q => f r st fun I st1 => comp2 I g tt f1 g1 tt1 te (wipeD r vs) vs1 (fin Q) I.items [] st1
def Mk (T : List (Addr × Str)) (K : Frag) (M1 : Pl) (H1 : Hp) (p : Addr) (N : Pl) (acc : List D) (st : DSt) (H : Hp) : Prop := Grow M1 H1 N H ∧ RS T K (N.hide p) st H ∧ ∃ xs, H p = some (.lst xs) ∧ RVs K (N.hide p) H acc xs
theorem Mk.go {T : List (Addr × Str)} {K : Frag} {M1 N : Pl} {H1 H H2 : Hp} {st1 st st2 : DSt} {p : Addr} {acc : List D} {M2 : Pl} (m : Mk T K M1 H1 p N acc st H) (s1 : RS T K M1 st1 H1) (np : H1 p = none) (g : Grow (N.hide p) H M2 H2) (s2 : RS T K M2 st2 H2) :
    ∃ N2, M2 = N2.hide p ∧ Mk T K M1 H1 p N2 acc st2 H2 ∧ Later (N.hide p) H (N2.hide p) H2 := by
  obtain ⟨gr, s, xs, hp, rs⟩ := m
  obtain ⟨N2, rfl⟩ := grow_hide g
  have hp2 : H2 p = some (.lst xs) := (g.hid p hidden_at).trans hp
  refine ⟨N2, rfl, ⟨?_, s2, xs, hp2, rs.grow g⟩, g.later⟩
  have z := gr.step (o := .lst xs) s1 np g
  rw [upd_self hp2] at z
  exact z
theorem Mk.push {T : List (Addr × Str)} {K : Frag} {M1 N : Pl} {H1 H : Hp} {st1 st : DSt} {p : Addr} {acc : List D} {y : D} {v : V} (m : Mk T K M1 H1 p N acc st H) (s1 : RS T K M1 st1 H1) (np : H1 p = none) (rv : RV K (N.hide p) H y v) :
    ∃ xs, H p = some (.lst xs) ∧ xs.length = acc.length ∧ Mk T K M1 H1 p N (acc ++ [y]) st (upd H p (.lst (xs ++ [v]))) ∧ Later (N.hide p) H (N.hide p) (upd H p (.lst (xs ++ [v]))) := by
  obtain ⟨gr, s, xs, hp, rs⟩ := m
  obtain ⟨s2, l⟩ := s.push (ys := xs ++ [v]) hp
  exact ⟨xs, hp, rs.length.symm, ⟨gr.step s1 np (Grow.refl _ _), s2, xs ++ [v], upd_same, (rs.later l).append (.cons (rv.later l) .nil)⟩, l⟩
theorem drop_cons {α : Type} {l ds : List α} {d : α} {i : Nat} (e : l.drop i = d :: ds) : l[i]? = some d ∧ i < l.length ∧ l.drop (i + 1) = ds := by
  have z : (l.drop i)[0]? = some d := by rw [e]; rfl
  rw [List.getElem?_drop, Nat.add_zero] at z
  refine ⟨z, (List.getElem?_eq_some_iff.mp z).1, ?_⟩
  have z : (l.drop i).drop 1 = ds := by rw [e]; rfl
  rw [List.drop_drop] at z
  exact z
section
variable {T : List (Addr × Str)} {X : Cx} {elt tg iter tg1 iter1 : Expr} {ifs ifs1 : List Expr} {scope : Scope} {own : List (Str × Nat)} {vs1 : List Nat} {pos : Pos} {f f1 : DTI} {g g1 : DTG} {tt tt1 : DTT} {te : DTE}
end
end DL
namespace DL
open PySem PySem.Spec PyProof.Rows L2 LamX PySem.W SL
section
variable {P : Program} {w : World} {K : Frag} {mg : Str → Option Value} {base : Heap} {T : List (Addr × Str)}
theorem _root_.L2.Fun.bindsK {x qual : Str} {st : Stmt} {f : Addr} {fd : FuncData} {s : Shared} {args : Args} {bs : List (Str × Value)} (F : Fun K x qual st f fd)
    (h : ∀ (kV doc pm : Value) (an : Option Addr) (cdv ct : Value), bindArgs (PySem.W.fnOf x qual (defArgs st) (defBody st) (defScope st) .none kV doc pm an cdv ct) args = pure bs) : BindsTo s fd args bs := by
  obtain ⟨oc, od, kV, doc, pm, an, cdv, ct, osl, rfl, lk, hcd⟩ := F.ex
  exact .of_eq (h kV doc pm an cdv ct)
theorem _root_.L2.Fun.one {x qual x' qual' : Str} {st st' : Stmt} {f : Addr} {fd fd' : FuncData} (F : Fun K x qual st f fd) (G : Fun K x' qual' st' f fd') : fd = fd' := by
  obtain ⟨_, _, _, _, _, _, _, _, _, _, l1, _⟩ := F.ex
  obtain ⟨_, _, _, _, _, _, _, _, _, _, l2, _⟩ := G.ex
  rw [l1] at l2
  cases l2
  rfl
def Scr (ns : List Int) (x : D) : Prop := x = .scr (ns.map D.int)
theorem Scr.seq {ns : List Int} {x : D} (h : Scr ns x) (st : DSt) : seqS st x = some (ns.map D.int) := by rw [show x = _ from h]; rfl
theorem law_start {cs : List (Addr × Addr)} {H : Hp} {a : Addr} {ns : List Int} {g : DRs} (hT : ∀ p ∈ T, ∃ q ∈ cs, q.2 = p.1) (em : ∀ p ∈ cs, H p.2 = some (.tbl #[])) (hS : SqL K H a (ns.map V.int)) (h : ∀ x, Scr ns x → g [x] [] fun d _ => d = .bl true) :
    spD T K 1 g [.ref a] H (fun v _ => v = .bl true) E0 := by
  obtain ⟨x, hx, rx⟩ : ∃ x, Scr ns x ∧ RV K ⟨0, []⟩ H x (.ref a) := by
    rcases hS with hS | hS
    · exact ⟨_, rfl, .scr (by simp) hS (RVs.of_ints ns)⟩
    · exact ⟨_, rfl, .lsk (fun G => .inr hS) (RVs.of_ints ns)⟩
  refine ⟨rfl, ⟨0, []⟩, [], [x], _, ⟨rfl, List.nodup_nil, fun n a o e => by simp [Pl.at_] at e, fun p hp => ?_, fun a ha => by simp at ha⟩, .cons rx .nil, h x hx, fun M' H' st' d v g s r q => ?_⟩
  · obtain ⟨q, hq, e⟩ := hT p hp
    have z := TabS.nil (q := p.2) (em q hq)
    rw [e] at z
    exact z
  · subst q
    cases r
    rfl
end
end DL
namespace DL
open PySem PySem.Spec PyProof.Rows L2 LamX PySem.W SL
section
variable {T : List (Addr × Str)} {X : Cx} {a b c e : Expr} {es : List Expr} {fa fb fc f : DTE} {fs : DTA} {pos p : Pos} {K : Frag}
def dIsB : DR2 := fun x y st Q => onB x fun a => onB y fun b => Q (.bl (decide (a = b))) st
def dNotB : DR2 := fun x y st Q => onB x fun a => onB y fun b => Q (.bl (!decide (a = b))) st
def truD (st : DSt) : D → Option Bool
  | .bl b => some b
  | .non => some false
  | .int i => some (i != 0)
  | .tup xs => some (!xs.isEmpty)
  | .tuk xs => some (!xs.isEmpty)
  | .lst xs => some (!xs.isEmpty)
  | .scr xs => some (!xs.isEmpty)
  | .ref n => match st[n]? with | some (.lst xs) => some (!xs.isEmpty) | some (.dK kvs) => some (!kvs.isEmpty) | _ => none
  | _ => none
def dTruth (f : DTE) : DTT := fun r st Q => f r st fun x st1 => onO (truD st1 x) fun c => Q c st1
end
end DL
namespace DL
open PySem PySem.Spec PyProof.Rows L2 LamX PySem.W SL
section
variable {prog : Program} {w : World} {A : Around} {E : Value → Shared → Prop} {s : Shared} {l : Addr} {its : List Value} {ns : List Int} {Q : Value → Shared → Prop}
end
section
variable {X : Cx} {T : List (Addr × Str)} {K : Frag}
def onNs (st : DSt) (x : D) (k : List Int → Prop) : Prop := onO (seqS st x) fun xs => onO (intsD xs) k
theorem onNs.of {st : DSt} {x : D} {k : List Int → Prop} (h : onNs st x k) : ∃ ns, seqS st x = some (ns.map D.int) ∧ k ns := by
  obtain ⟨xs, e, h⟩ := onO.of h
  obtain ⟨ns, e2, h⟩ := onO.of h
  exact ⟨ns, by rw [e, intsD_of e2], h⟩
def dSum : DRs := fun ds st Q => on1 ds fun x => onNs st x fun ns => Q (.int ns.sum) st
def dMaxL : DRs := fun ds st Q => on1 ds fun x => onNs st x fun ns => 0 < ns.length ∧ ∀ m, m ∈ ns → (∀ y, y ∈ ns → y ≤ m) → Q (.int m) st
def dMinL : DRs := fun ds st Q => on1 ds fun x => onNs st x fun ns => 0 < ns.length ∧ ∀ m, m ∈ ns → (∀ y, y ∈ ns → m ≤ y) → Q (.int m) st
def dInt : DRs := fun ds st Q => on1 ds fun x => match x with
  | .int i => Q (.int i) st
  | .bl b => Q (.int (if b then 1 else 0)) st
  | _ => False
end
end DL
namespace DL
open PySem PySem.Spec PyProof.Rows L2 LamX PySem.W SL
section
variable {X : Cx} {T : List (Addr × Str)} {K : Frag}
def dMaxDef (fs : DTE) (fd : DTE) : DTE := fun r st Q => fs r st fun x st1 => fd r st1 fun d st2 => onNs st2 x fun ns => (ns = [] → Q d st2) ∧ ∀ m, m ∈ ns → (∀ y, y ∈ ns → y ≤ m) → Q (.int m) st2
end
end DL
namespace DL
open PySem PySem.Spec PyProof.Rows L2 LamX PySem.W SL
end DL
namespace DL
open PySem PySem.Spec PyProof.Rows L2 LamX PySem.W SL
def keyD : D → Option Key
  | .int i => some (.inl i)
  | .str x => some (.inr x)
  | _ => none
theorem RV.key {K : Frag} {M : Pl} {H : Hp} {d : D} {v : V} {k : Key} (r : RV K M H d v) (h : keyD d = some k) : v = kV k := by
  cases r <;> first | (cases h; rfl) | cases h
def valD {κ : Type} [DecidableEq κ] (kvs : List (κ × D)) (k : κ) : Option D := (kvs.find? fun kv => decide (kv.1 = k)).map (·.2)
def putD {κ : Type} [DecidableEq κ] (kvs : List (κ × D)) (k : κ) (v : D) : List (κ × D) :=
  if (kvs.any fun kv => decide (kv.1 = k)) = true then kvs.map (fun kv => if kv.1 = k then (kv.1, v) else kv) else kvs ++ [(k, v)]
structure KVs {κ : Type} (K : Frag) (M : Pl) (H : Hp) (kvs : List (κ × D)) (ys : List (κ × V)) : Prop where
  ks : kvs.map (·.1) = ys.map (·.1)
  vs : RVs K M H (kvs.map (·.2)) (ys.map (·.2))
section
variable {κ : Type} [DecidableEq κ] {K : Frag} {M : Pl} {H : Hp}
theorem KVs.nil : KVs K M H ([] : List (κ × D)) [] := ⟨rfl, .nil⟩
theorem KVs.cons {k : κ} {d : D} {v : V} {kvs : List (κ × D)} {ys : List (κ × V)} (h : RV K M H d v) (t : KVs K M H kvs ys) : KVs K M H ((k, d) :: kvs) ((k, v) :: ys) := ⟨by rw [List.map_cons, List.map_cons, t.ks], .cons h t.vs⟩
theorem KVs.un {k : κ} {d : D} {kvs : List (κ × D)} {ys : List (κ × V)} (h : KVs K M H ((k, d) :: kvs) ys) : ∃ v zs, ys = (k, v) :: zs ∧ RV K M H d v ∧ KVs K M H kvs zs := by
  obtain ⟨h1, h2⟩ := h
  cases ys with
  | nil => cases h1
  | cons y zs =>
    obtain ⟨k', v⟩ := y
    rw [List.map_cons, List.map_cons] at h1 h2
    cases h2 with
    | cons a b =>
      have e := List.cons.inj h1
      cases e.1
      exact ⟨v, zs, rfl, a, e.2, b⟩
theorem KVs.grow {M' : Pl} {H' : Hp} {kvs : List (κ × D)} {ys : List (κ × V)} (h : KVs K M H kvs ys) (g : Grow M H M' H') : KVs K M' H' kvs ys := ⟨h.ks, h.vs.grow g⟩
theorem KVs.length {kvs : List (κ × D)} {ys : List (κ × V)} (h : KVs K M H kvs ys) : kvs.length = ys.length := by
  have := congrArg List.length h.ks
  rw [List.length_map, List.length_map] at this
  exact this
theorem KVs.val {k : κ} : ∀ {kvs : List (κ × D)} {ys : List (κ × V)}, KVs K M H kvs ys → (valD kvs k = none ∧ valV ys k = none) ∨ ∃ d v, valD kvs k = some d ∧ valV ys k = some v ∧ RV K M H d v
  | [], ys, h => by
    have : ys = [] := by cases ys with | nil => rfl | cons _ _ => cases h.ks
    subst this
    exact .inl ⟨rfl, rfl⟩
  | (k', d) :: kvs, ys, h => by
    obtain ⟨v, zs, rfl, rv, t⟩ := h.un
    by_cases e : k' = k
    · subst e
      exact .inr ⟨d, v, by simp [valD, List.find?_cons], valV_pos rfl, rv⟩
    · have z := KVs.val (k := k) t
      rw [valV_neg e]
      have e2 : valD ((k', d) :: kvs) k = valD kvs k := by simp [valD, List.find?_cons, e]
      rw [e2]
      exact z
theorem KVs.any {k : κ} : ∀ {kvs : List (κ × D)} {ys : List (κ × V)}, KVs K M H kvs ys → (kvs.any fun kv => decide (kv.1 = k)) = (ys.any fun kv => decide (kv.1 = k))
  | [], ys, h => by
    have : ys = [] := by cases ys with | nil => rfl | cons _ _ => cases h.ks
    subst this
    rfl
  | (k', d) :: kvs, ys, h => by
    obtain ⟨v, zs, rfl, rv, t⟩ := h.un
    rw [List.any_cons, List.any_cons, KVs.any t]
theorem KVs.app {k : κ} {d : D} {v : V} (h : RV K M H d v) : ∀ {kvs : List (κ × D)} {ys : List (κ × V)}, KVs K M H kvs ys → KVs K M H (kvs ++ [(k, d)]) (ys ++ [(k, v)])
  | [], ys, t => by
    have : ys = [] := by cases ys with | nil => rfl | cons _ _ => cases t.ks
    subst this
    exact .cons h .nil
  | (k', d') :: kvs, ys, t => by
    obtain ⟨v', zs, rfl, rv, t'⟩ := t.un
    exact .cons rv (KVs.app h t')
theorem KVs.upd {k : κ} {d : D} {v : V} (h : RV K M H d v) : ∀ {kvs : List (κ × D)} {ys : List (κ × V)}, KVs K M H kvs ys → KVs K M H (kvs.map fun kv => if kv.1 = k then (kv.1, d) else kv) (ys.map fun kv => if kv.1 = k then (kv.1, v) else kv)
  | [], ys, t => by
    have : ys = [] := by cases ys with | nil => rfl | cons _ _ => cases t.ks
    subst this
    exact .nil
  | (k', d') :: kvs, ys, t => by
    obtain ⟨v', zs, rfl, rv, t'⟩ := t.un
    rw [List.map_cons, List.map_cons]
    by_cases e : k' = k
    · rw [if_pos e, if_pos e]; exact .cons h (KVs.upd h t')
    · rw [if_neg e, if_neg e]; exact .cons rv (KVs.upd h t')
theorem KVs.put {k : κ} {d : D} {v : V} {kvs : List (κ × D)} {ys : List (κ × V)} (h : RV K M H d v) (t : KVs K M H kvs ys) : KVs K M H (putD kvs k d) (putK ys k v) := by
  unfold putD putK
  rw [t.any (k := k)]
  split
  · exact t.upd h
  · exact t.app h
end
def onDk (st : DSt) (x : D) (k : Nat → List (Key × D) → Prop) : Prop := match x with
  | .ref n => match st[n]? with | some (.dK kvs) => k n kvs | _ => False
  | _ => False
theorem onDk_ref {st : DSt} {n : Nat} {kvs : List (Key × D)} {k : Nat → List (Key × D) → Prop} (h : st[n]? = some (.dK kvs)) : onDk st (.ref n) k = k n kvs := by unfold onDk; simp only [h]
theorem onDk.of {st : DSt} {d : D} {k : Nat → List (Key × D) → Prop} (h : onDk st d k) : ∃ n kvs, d = .ref n ∧ st[n]? = some (.dK kvs) ∧ k n kvs := by
  cases d with
  | ref n =>
    unfold onDk at h
    simp only at h
    split at h
    · rename_i kvs e
      exact ⟨n, kvs, rfl, e, h⟩
    · exact h.elim
  | _ => exact h.elim
section
variable {T : List (Addr × Str)} {X : Cx} {K : Frag} {a b o i : Expr} {fa fb fo fi fv : DTE} {pos : Pos}
theorem onDk.rd {M : Pl} {H : Hp} {st : DSt} {n : Nat} {kvs : List (Key × D)} {v : V} (s : RS T K M st H) (r : RV K M H (.ref n) v) (e : st[n]? = some (.dK kvs)) : ∃ a ys, v = .ref a ∧ M.at_ n = some a ∧ H a = some (.dK ys) ∧ KVs K M H kvs ys := by
  cases r with
  | ref hm =>
    obtain ⟨ys, e1, e2, e3⟩ := s.obj n _ _ hm e
    exact ⟨_, ys, rfl, hm, e1, ⟨e2, e3⟩⟩
def dNewK : DTE := fun _ st Q => Q (.ref st.length) (st ++ [.dK []])
theorem de_newK : DE T X (.Dict [] [] pos) dNewK := PE.imp pe_dnewK fun σ H Q ⟨M, r, st, Q', s, re, h, k⟩ => fun p np =>
  k (M.app [p]) _ (st ++ [.dK []]) _ _ (Grow.place s.hid np) (s.place (u := .dK []) np ⟨[], upd_same, rfl, .nil⟩) (.ref (by unfold Pl.at_; show (M.m ++ [p])[M.h + st.length]? = some p; rw [← s.len]; simp)) (show Q' (.ref st.length) (st ++ [.dK []]) from h)
def dGetK : DR2 := fun x y st Q => onDk st x fun n kvs => onO (keyD y) fun k => onO (valD kvs k) fun d => Q d st
theorem de_getK (hu : X.A.units + 1 < cLine) (ha : DE T X a fa) (hb : DE T X b fb) (hs : NoSl b) : DE T X (.Subscript a b pos) (dOp dGetK fa fb) := PE.imp (pe_dget hu ha hb hs) fun σ H Q ⟨M, r, st, Q', s, re, h, k⟩ =>
  ⟨M, r, st, _, s, re, h, fun M1 H1 st1 x vx g1 s1 r1 h1 => ⟨M1, r, st1, _, s1, re.grow g1, h1, fun M2 H2 st2 y vy g2 s2 r2 h2 => by
    obtain ⟨n, kvs, rfl, e, h2⟩ := onDk.of h2
    obtain ⟨kk, ek, h2⟩ := onO.of h2
    obtain ⟨d, ed, h2⟩ := onO.of h2
    obtain ⟨p, ys, rfl, hm, hp, kv⟩ := onDk.rd s2 (r1.grow g2) e
    have := r2.key ek
    subst this
    rcases kv.val (k := kk) with ⟨z, _⟩ | ⟨d', v, z, z2, rv⟩
    · rw [z] at ed; cases ed
    · rw [z] at ed
      cases ed
      refine ⟨p, v, rfl, ?_, ((k.grow g1).grow g2).here s2 rv h2⟩
      rw [← z2]
      exact DGet.k hp⟩⟩
def dInK (neg : Bool) (fy fd : DTE) : DTE := fun r st Q => fy r st fun y st1 => fd r st1 fun x st2 => onDk st2 x fun n kvs => onO (keyD y) fun k => Q (.bl (if neg then !(valD kvs k).isSome else (valD kvs k).isSome)) st2
theorem lift_inK {K : Frag} {σ : L2.St} {H : Hp} {Q : VK} (h : lift T K (dInK false fa fb) σ H Q) : tDIn (lift T K fa) (lift T K fb) σ H Q := by
  obtain ⟨M, r, st, Q', s, re, h, k⟩ := h
  refine ⟨M, r, st, _, s, re, h, fun M1 H1 st1 y vy g1 s1 r1 h1 => ⟨M1, r, st1, _, s1, re.grow g1, h1, fun M2 H2 st2 x vx g2 s2 r2 h2 => ?_⟩⟩
  obtain ⟨n, kvs, rfl, e, h2⟩ := onDk.of h2
  obtain ⟨kk, ek, h2⟩ := onO.of h2
  obtain ⟨p, ys, rfl, hm, hp, kv⟩ := onDk.rd s2 r2 e
  have := (r1.grow g2).key ek
  subst this
  refine ⟨p, valV ys kk, rfl, DGet.k hp, ?_⟩
  have e2 : (valV ys kk).isSome = (valD kvs kk).isSome := by
    rcases kv.val (k := kk) with ⟨z, z2⟩ | ⟨d', v, z, z2, rv⟩ <;> rw [z, z2] <;> rfl
  rw [e2]
  exact ((k.grow g1).grow g2).here s2 (.bl _) h2
theorem lift_ninK {K : Frag} {σ : L2.St} {H : Hp} {Q : VK} (h : lift T K (dInK true fa fb) σ H Q) : tDNotIn (lift T K fa) (lift T K fb) σ H Q := by
  obtain ⟨M, r, st, Q', s, re, h, k⟩ := h
  refine ⟨M, r, st, _, s, re, h, fun M1 H1 st1 y vy g1 s1 r1 h1 => ⟨M1, r, st1, _, s1, re.grow g1, h1, fun M2 H2 st2 x vx g2 s2 r2 h2 => ?_⟩⟩
  obtain ⟨n, kvs, rfl, e, h2⟩ := onDk.of h2
  obtain ⟨kk, ek, h2⟩ := onO.of h2
  obtain ⟨p, ys, rfl, hm, hp, kv⟩ := onDk.rd s2 r2 e
  have := (r1.grow g2).key ek
  subst this
  refine ⟨p, valV ys kk, rfl, DGet.k hp, ?_⟩
  have e2 : (valV ys kk).isSome = (valD kvs kk).isSome := by
    rcases kv.val (k := kk) with ⟨z, z2⟩ | ⟨d', v, z, z2, rv⟩ <;> rw [z, z2] <;> rfl
  rw [e2]
  exact ((k.grow g1).grow g2).here s2 (.bl _) h2
theorem dt_inK (hu : X.A.units + 1 < cLine) (ha : DE T X a fa) (hb : DE T X b fb) (hm : behindInMarks .In b = false := by rfl) : DT T X (.Compare a [.In] [b] pos) (dTest (dInK false fa fb)) := dt_cmp (pc_din hu ha hb) (fun _ _ _ h => lift_inK h) hm
theorem dt_ninK (hu : X.A.units + 1 < cLine) (ha : DE T X a fa) (hb : DE T X b fb) (hm : behindInMarks .NotIn b = false := by rfl) : DT T X (.Compare a [.NotIn] [b] pos) (dTest (dInK true fa fb)) := dt_cmp (pc_dnotin hu ha hb) (fun _ _ _ h => lift_ninK h) hm
def sPutK (fd fy fv : DTE) : DTS := fun E r st => fv r st fun v st1 => fd r st1 fun x st2 => fy r st2 fun y st3 => onDk st3 x fun n kvs => onO (keyD y) fun k => kvs.length < sizeLine ∧ E.nx r (st3.set n (.dK (putD kvs k v)))
theorem ds_putK {value : Expr} {pos' : Pos} (hu : X.A.units + 1 < cLine) (ho : DE T X o fo) (hi : DE T X i fi) (hv : DE T X value fv) (hs : swapsWith value (some (.Subscript o i pos')) pos.line X.env = pure false := by rfl) :
    DSt1 T X (.Assign [.Subscript o i pos'] value pos) (sPutK fo fi fv) := PS.imp (ps_dput hu ho hi hv hs) fun E σ H ⟨M, r, st, E', s, re, h, k⟩ =>
  ⟨M, r, st, _, s, re, h, fun M1 H1 st1 v vv g1 s1 r1 h1 => ⟨M1, r, st1, _, s1, re.grow g1, h1, fun M2 H2 st2 x vx g2 s2 r2 h2 => ⟨M2, r, st2, _, s2, (re.grow g1).grow g2, h2, fun M3 H3 st3 y vy g3 s3 r3 h3 => by
    obtain ⟨n, kvs, rfl, e, h3⟩ := onDk.of h3
    obtain ⟨kk, ek, l, h3⟩ := onO.of h3
    obtain ⟨p, ys, rfl, hm, hp, kv⟩ := onDk.rd s3 (r2.grow g3) e
    have := r3.key ek
    subst this
    refine ⟨p, _, rfl, DPut.k hp (by rw [← kv.length]; exact l), ?_⟩
    have rv := (r1.grow g2).grow g3
    have gw : Grow M3 H3 M3 (L2.upd H3 p (.dK (putK ys kk vv))) := Grow.write s3.nd hm
    have kp := kv.put (k := kk) rv
    refine ((((k.nx).grow g1).grow g2).grow g3) M3 _ σ r _ gw (s3.write (u := .dK (putD kvs kk v)) hm ⟨_, upd_same, kp.ks, (kp.grow gw).vs⟩) ((((re.grow g1).grow g2).grow g3).grow gw) h3⟩⟩⟩
def dLenK : DRs := fun ds st Q => on1 ds fun x => onDk st x fun n kvs => Q (.int kvs.length) st
end
end DL
namespace DL
open PySem PySem.Spec PyProof.Rows L2 LamX PySem.W SL
section
variable {T : List (Addr × Str)} {X : Cx} {K : Frag} {a b o i : Expr} {fa fb fo fi fv : DTE} {pos : Pos}
def sAug (i : Nat) (g : Int → Int → Int) (f : DTE) : DTS := fun E r st => onOO r[i]? fun x => f r st fun y st1 => onI x fun m => onI y fun n => E.nx (r.set i (some (.int (g m n)))) st1
def on3 (ds : List D) (k : D → D → D → Prop) : Prop := match ds with | [x, y, z] => k x y z | _ => False
theorem on3.of {ds : List D} {k : D → D → D → Prop} (h : on3 ds k) : ∃ x y z, ds = [x, y, z] ∧ k x y z := by
  match ds, h with
  | [x, y, z], h => exact ⟨x, y, z, rfl, h⟩
  | [], h => exact h.elim
  | [_], h => exact h.elim
  | [_, _], h => exact h.elim
  | _ :: _ :: _ :: _ :: _, h => exact h.elim
def sPar3 (i j l : Nat) (f : DTA) : DTS := fun E r st => f r st fun ds st1 => on3 ds fun d e g => E.nx (((r.set i (some d)).set j (some e)).set l (some g)) st1
end
end DL
namespace SL
open PySem PySem.Spec PyProof.Rows L2 LamX PySem.W PySem.Calls
section
variable {P : Program} {w : World} {A : Around} {E : Value → Shared → Prop} {s : Shared} {a fa : Addr} {Q : Value → Shared → Prop} {kz : List PyData} {its : List Value} {o : Obj} {n : Nat} {T : String}
end
end SL
namespace DL
open PySem PySem.Spec PyProof.Rows L2 LamX PySem.W SL
end DL
namespace DL
open PySem PySem.Spec PyProof.Rows L2 LamX PySem.W SL
section
variable {r : DEnv} {st : DSt} {Q : DK} {E : DEnds} {f fa fb fc : DTE} {fs : DTA} {t u : DTT} {F G : DTS} {x y : D} {i j : Int} {R2' : DR2} {Rs : DRs} {i' j' : Nat}
@[simp] theorem e_var : dVar i' r st Q = onOO r[i']? fun d => Q d st := rfl
@[simp] theorem e_C : dC x r st Q = Q x st := rfl
@[simp] theorem e_op : dOp R2' fa fb r st Q = fa r st fun x st1 => fb r st1 fun y st2 => R2' x y st2 Q := rfl
@[simp] theorem e_neg : dNeg f r st Q = f r st fun x st1 => onI x fun i => Q (.int (-i)) st1 := rfl
@[simp] theorem e_isN : dIsN f r st Q = f r st fun x st1 => Q (.bl (isNon x)) st1 := rfl
@[simp] theorem e_notN : dNotN f r st Q = f r st fun x st1 => Q (.bl (!isNon x)) st1 := rfl
@[simp] theorem e_and : dAndV fa fb r st Q = fa r st fun x st1 => onB x fun c => if c = true then fb r st1 Q else Q (.bl false) st1 := rfl
@[simp] theorem e_or : dOrV fa fb r st Q = fa r st fun x st1 => onB x fun c => if c = true then Q (.bl true) st1 else fb r st1 Q := rfl
@[simp] theorem e_not : dNotV f r st Q = f r st fun x st1 => onB x fun c => Q (.bl (!c)) st1 := rfl
@[simp] theorem e_test {Qb : Bool → DSt → Prop} : dTest f r st Qb = f r st fun x st1 => onB x fun c => Qb c st1 := rfl
@[simp] theorem e_tAnd {Qb : Bool → DSt → Prop} : dtAnd t u r st Qb = t r st fun c st1 => if c = true then u r st1 Qb else Qb false st1 := rfl
@[simp] theorem e_tOr {Qb : Bool → DSt → Prop} : dtOr t u r st Qb = t r st fun c st1 => if c = true then Qb true st1 else u r st1 Qb := rfl
@[simp] theorem e_tNot {Qb : Bool → DSt → Prop} : dtNot t r st Qb = t r st fun c st1 => Qb (!c) st1 := rfl
@[simp] theorem e_tYes {Qb : Bool → DSt → Prop} : dtYes r st Qb = Qb true st := rfl
@[simp] theorem e_if : dIf t fa fb r st Q = t r st fun c st1 => if c = true then fa r st1 Q else fb r st1 Q := rfl
@[simp] theorem e_aNil {Qa : List D → DSt → Prop} : daNil r st Qa = Qa [] st := rfl
@[simp] theorem e_aCons {Qa : List D → DSt → Prop} : daCons f fs r st Qa = f r st fun d st1 => fs r st1 fun ds st2 => Qa (d :: ds) st2 := rfl
@[simp] theorem e_tup : dTup fs r st Q = fs r st fun ds st1 => okLen ds (Q (.tup ds) st1) := rfl
@[simp] theorem e_lst : dLst fs r st Q = fs r st fun ds st1 => okLen ds (Q (.lst ds) st1) := rfl
@[simp] theorem e_lstN : dLstN fs r st Q = fs r st fun ds st1 => okLen ds (Q (.ref st1.length) (st1 ++ [.lst ds])) := rfl
@[simp] theorem e_len0 {P : Prop} : okLen [] P = P := rfl
@[simp] theorem e_len1 {P : Prop} {a : D} : okLen [a] P = P := rfl
@[simp] theorem e_len2 {P : Prop} {a b : D} : okLen [a, b] P = P := rfl
@[simp] theorem e_len3 {P : Prop} {a b c : D} : okLen [a, b, c] P = P := rfl
@[simp] theorem e_len4 {P : Prop} {a b c d : D} : okLen [a, b, c, d] P = P := rfl
@[simp] theorem e_len5 {P : Prop} {a b c d e : D} : okLen [a, b, c, d, e] P = P := rfl
@[simp] theorem e_cb : dCB Rs fs r st Q = fs r st fun ds st1 => Rs ds st1 Q := rfl
@[simp] theorem e_on1 {k : D → Prop} {a : D} : on1 [a] k = k a := rfl
@[simp] theorem e_on2 {k : D → D → Prop} {a b : D} : on2 [a, b] k = k a b := rfl
@[simp] theorem e_onI {k : Int → Prop} : onI (.int i) k = k i := rfl
@[simp] theorem e_onB {k : Bool → Prop} {b : Bool} : onB (.bl b) k = k b := rfl
@[simp] theorem e_onO {α : Type} {k : α → Prop} {b : α} : onO (some b) k = k b := rfl
@[simp] theorem e_onO0 {α : Type} {k : α → Prop} : onO none k = False := rfl
@[simp] theorem e_onOO {k : D → Prop} {b : D} : onOO (some (some b)) k = k b := rfl
@[simp] theorem e_I0 {g : Int → Int → D} : dI0 g x y st Q = onI x fun i => onI y fun j => Q (g i j) st := rfl
@[simp] theorem e_I {C : Int → Int → Prop} {g : Int → Int → D} : dI C g x y st Q = onI x fun i => onI y fun j => C i j ∧ Q (g i j) st := rfl
@[simp] theorem e_add {fin : DK → List D → DSt → Prop} : dAddG fin (.int i) (.int j) st Q = Q (.int (i + j)) st := rfl
@[simp] theorem e_addT {fin : DK → List D → DSt → Prop} {xs ys : List D} : dAddG fin (.tup xs) (.tup ys) st Q = (xs.length + ys.length ≤ sizeLine ∧ Q (.tup (xs ++ ys)) st) := rfl
@[simp] theorem e_addS {fin : DK → List D → DSt → Prop} {a b : Str} : dAddG fin (.str a) (.str b) st Q = (a.length + b.length ≤ sizeLine ∧ Q (.str (a ++ b)) st) := rfl
@[simp] theorem e_addL {fin : DK → List D → DSt → Prop} {xs ys : List D} : dAddG fin (.lst xs) (.lst ys) st Q = (xs.length + ys.length ≤ sizeLine ∧ fin Q (xs ++ ys) st) := rfl
@[simp] theorem e_addLR {fin : DK → List D → DSt → Prop} {xs : List D} {n : Nat} : dAddG fin (.lst xs) (.ref n) st Q = onO (lstS st (.ref n)) fun ys => xs.length + ys.length ≤ sizeLine ∧ fin Q (xs ++ ys) st := rfl
@[simp] theorem e_addRL {fin : DK → List D → DSt → Prop} {ys : List D} {n : Nat} : dAddG fin (.ref n) (.lst ys) st Q = onO (lstS st (.ref n)) fun xs => xs.length + ys.length ≤ sizeLine ∧ fin Q (xs ++ ys) st := rfl
@[simp] theorem e_addRR {fin : DK → List D → DSt → Prop} {m n : Nat} : dAddG fin (.ref m) (.ref n) st Q = onO (lstS st (.ref m)) fun xs => onO (lstS st (.ref n)) fun ys => xs.length + ys.length ≤ sizeLine ∧ fin Q (xs ++ ys) st := rfl
@[simp] theorem e_mul {fin : DK → List D → DSt → Prop} : dMulG fin (.int i) (.int j) st Q = (CMul i j ∧ Q (.int (i * j)) st) := rfl
@[simp] theorem e_mulL {fin : DK → List D → DSt → Prop} {xs : List D} : dMulG fin (.lst xs) (.int i) st Q = ((-1000 ≤ i ∧ xs.length * i.toNat ≤ 1000 ∧ i ≤ 100000000) ∧ fin Q (List.replicate i.toNat xs).flatten st) := rfl
@[simp] theorem e_mulT {fin : DK → List D → DSt → Prop} {xs : List D} : dMulG fin (.tup xs) (.int i) st Q = (xs ≠ [] ∧ 1 ≤ i ∧ i ≤ 1000 ∧ xs.length ≤ 1000 ∧ Q (.tup (List.replicate i.toNat xs).flatten) st) := rfl
@[simp] theorem e_rev : dRev f r st Q = f r st fun x st1 => dRevV x st1 Q := rfl
@[simp] theorem e_revT {xs : List D} : dRevV (.tup xs) st Q = Q (.tup xs.reverse) st := rfl
@[simp] theorem e_ix : dIx x y st Q = onO (seqS st x) fun ds => onI y fun i => onO (atI ds i) fun d => Q d st := rfl
@[simp] theorem e_eqI : dEqG false (.int i) (.int j) st Q = Q (.bl (decide (i = j))) st := rfl
@[simp] theorem e_eqS {a b : Str} : dEqG false (.str a) (.str b) st Q = Q (.bl (decide (a = b))) st := rfl
@[simp] theorem e_eqB {a b : Bool} : dEqG false (.bl a) (.bl b) st Q = Q (.bl (decide (a = b))) st := rfl
@[simp] theorem e_neI : dEqG true (.int i) (.int j) st Q = Q (.bl (!decide (i = j))) st := rfl
@[simp] theorem e_neS {a b : Str} : dEqG true (.str a) (.str b) st Q = Q (.bl (!decide (a = b))) st := rfl
@[simp] theorem e_neB {a b : Bool} : dEqG true (.bl a) (.bl b) st Q = Q (.bl (!decide (a = b))) st := rfl
@[simp] theorem e_ltI : dLtG (.int i) (.int j) st Q = Q (.bl (decide (i < j))) st := rfl
@[simp] theorem e_in : dInG false x y st Q = onO (seqS st y) fun ds => (flatD x = true ∧ ds.all flatD = true) ∧ Q (.bl (ds.any fun y => eqF y x)) st := rfl
@[simp] theorem e_nin : dInG true x y st Q = onO (seqS st y) fun ds => (flatD x = true ∧ ds.all flatD = true) ∧ Q (.bl (!(ds.any fun y => eqF y x))) st := rfl
@[simp] theorem e_chain {a b : DR2} : dChain a b fa fb fc r st Q = fa r st fun x st1 => fb r st1 fun y st2 => a x y st2 fun z st3 => onB z fun k => if k = true then fc r st3 fun w st4 => b y w st4 Q else Q (.bl false) st3 := rfl
@[simp] theorem e_len : dLen [x] st Q = onO (seqS st x) fun xs => Q (.int xs.length) st := rfl
@[simp] theorem e_abs : dAbs [.int i] st Q = Q (.int (if i < 0 then -i else i)) st := rfl
@[simp] theorem e_2I {g : Int → Int → Int} : d2I g [.int i, .int j] st Q = Q (.int (g i j)) st := rfl
@[simp] theorem e_tuple1 {xs : List D} : dTuple [.tup xs] st Q = Q (.tup xs) st := rfl
@[simp] theorem e_tuple2 {xs : List D} : dTuple [.lst xs] st Q = Q (.tup xs) st := rfl
@[simp] theorem e_tuple3 {n : Nat} : dTuple [.ref n] st Q = onO (seqS st (.ref n)) fun xs => Q (.tup xs) st := rfl
@[simp] theorem e_listT : dListT [x] st Q = onO (seqS st x) fun xs => Q (.lst xs) st := rfl
@[simp] theorem e_listN : dListN [x] st Q = onO (seqS st x) fun xs => Q (.ref st.length) (st ++ [.lst xs]) := rfl
@[simp] theorem e_allR {g : List Bool → Bool} {xs : List D} : dAllR g [.lst xs] st Q = onO (boolsD xs) fun bs => Q (.bl (g bs)) st := rfl
@[simp] theorem e_seqT {xs : List D} : seqS st (.tup xs) = some xs := rfl
@[simp] theorem e_seqK {xs : List D} : seqS st (.tuk xs) = some xs := rfl
@[simp] theorem e_seqL {xs : List D} : seqS st (.lst xs) = some xs := rfl
theorem seq_ref {n : Nat} {xs : List D} (h : st[n]? = some (.lst xs)) : seqS st (.ref n) = some xs := by unfold seqS; simp only [h]
@[simp] theorem e_repr : dRepr [x] st Q = onO (pdS st x) fun p => (p.showable = true ∧ p.depth ≤ 50 ∧ p.shown.length ≤ sizeLine) ∧ Q (.str p.shown) st := rfl
@[simp] theorem e_isi {u : String} : dIsi u f r st Q = f r st fun x st1 => onO (tyN st1 x) fun t => Q (.bl (subTy t u)) st1 := rfl
@[simp] theorem e_isB {a b : Bool} : dIsB (.bl a) (.bl b) st Q = Q (.bl (decide (a = b))) st := rfl
@[simp] theorem e_notB {a b : Bool} : dNotB (.bl a) (.bl b) st Q = Q (.bl (!decide (a = b))) st := rfl
@[simp] theorem e_truth {Qb : Bool → DSt → Prop} : dTruth f r st Qb = f r st fun x st1 => onO (truD st1 x) fun c => Qb c st1 := rfl
@[simp] theorem e_next : sNext E r st = E.nx r st := rfl
@[simp] theorem e_seq : sSeq F G E r st = F { E with nx := G E } r st := rfl
@[simp] theorem e_drop : sDrop f E r st = f r st fun _ st1 => E.nx r st1 := rfl
@[simp] theorem e_ret : sRet f E r st = f r st E.rt := rfl
@[simp] theorem e_retN : sRetN E r st = E.rt .non st := rfl
@[simp] theorem e_ifS : sIf t F G E r st = t r st fun b st1 => if b = true then F E r st1 else G E r st1 := rfl
@[simp] theorem e_set : sSet i' f E r st = f r st fun d st1 => E.nx (r.set i' (some d)) st1 := rfl
@[simp] theorem e_asg {g : DTG} : sAsg f g E r st = f r st fun d st1 => g d r st1 E.nx := rfl
@[simp] theorem e_par : sPar i' j' fs E r st = fs r st fun ds st1 => on2 ds fun d e => E.nx ((r.set i' (some d)).set j' (some e)) st1 := rfl
@[simp] theorem e_nm {k : DEnv → DSt → Prop} : gNm i' x r st k = k (r.set i' (some x)) st := rfl
@[simp] theorem e_gsN {k : DEnv → DSt → Prop} : gsNil [] r st k = k r st := rfl
@[simp] theorem e_gsC {k : DEnv → DSt → Prop} {g : DTG} {h : DTGs} {ds : List D} : gsCons g h (x :: ds) r st k = g x r st fun r1 st1 => h ds r1 st1 k := rfl
@[simp] theorem e_gTpK {k : DEnv → DSt → Prop} {h : DTGs} {ds : List D} : gTp i' h (.tuk ds) r st k = (ds.length = i' ∧ h ds r st k) := rfl
@[simp] theorem e_gTpL {k : DEnv → DSt → Prop} {h : DTGs} {ds : List D} : gTp i' h (.lst ds) r st k = (ds.length = i' ∧ h ds r st k) := rfl
@[simp] theorem e_sum : dSum [x] st Q = onO (seqS st x) fun xs => onO (intsD xs) fun ns => Q (.int ns.sum) st := rfl
@[simp] theorem e_maxL : dMaxL [x] st Q = onO (seqS st x) fun xs => onO (intsD xs) fun ns => 0 < ns.length ∧ ∀ m, m ∈ ns → (∀ y, y ∈ ns → y ≤ m) → Q (.int m) st := rfl
@[simp] theorem e_minL : dMinL [x] st Q = onO (seqS st x) fun xs => onO (intsD xs) fun ns => 0 < ns.length ∧ ∀ m, m ∈ ns → (∀ y, y ∈ ns → m ≤ y) → Q (.int m) st := rfl
@[simp] theorem e_maxDef : dMaxDef fa fb r st Q = fa r st fun x st1 => fb r st1 fun d st2 => onO (seqS st2 x) fun xs => onO (intsD xs) fun ns => (ns = [] → Q d st2) ∧ ∀ m, m ∈ ns → (∀ y, y ∈ ns → y ≤ m) → Q (.int m) st2 := rfl
@[simp] theorem e_int : dInt [.int i] st Q = Q (.int i) st := rfl
@[simp] theorem e_intB {b : Bool} : dInt [.bl b] st Q = Q (.int (if b then 1 else 0)) st := rfl
@[simp] theorem e_aug {g : Int → Int → Int} : sAug i' g f E r st = onOO r[i']? fun x => f r st fun y st1 => onI x fun m => onI y fun n => E.nx (r.set i' (some (.int (g m n)))) st1 := rfl
@[simp] theorem e_on3 {k : D → D → D → Prop} {a b c : D} : on3 [a, b, c] k = k a b c := rfl
@[simp] theorem e_par3 {l' : Nat} : sPar3 i' j' l' fs E r st = fs r st fun ds st1 => on3 ds fun d e g => E.nx (((r.set i' (some d)).set j' (some e)).set l' (some g)) st1 := rfl
@[simp] theorem e_newK : dNewK r st Q = Q (.ref st.length) (st ++ [.dK []]) := rfl
@[simp] theorem e_getK : dGetK x y st Q = onDk st x fun n kvs => onO (keyD y) fun k => onO (valD kvs k) fun d => Q d st := rfl
@[simp] theorem e_keyI : keyD (.int i) = some (.inl i) := rfl
@[simp] theorem e_keyS {a : Str} : keyD (.str a) = some (.inr a) := rfl
@[simp] theorem e_inK : dInK false fa fb r st Q = fa r st fun y st1 => fb r st1 fun x st2 => onDk st2 x fun n kvs => onO (keyD y) fun k => Q (.bl (valD kvs k).isSome) st2 := rfl
@[simp] theorem e_ninK : dInK true fa fb r st Q = fa r st fun y st1 => fb r st1 fun x st2 => onDk st2 x fun n kvs => onO (keyD y) fun k => Q (.bl (!(valD kvs k).isSome)) st2 := rfl
@[simp] theorem e_putK : sPutK fa fb fc E r st = fc r st fun v st1 => fa r st1 fun x st2 => fb r st2 fun y st3 => onDk st3 x fun n kvs => onO (keyD y) fun k => kvs.length < sizeLine ∧ E.nx r (st3.set n (.dK (putD kvs k v))) := rfl
@[simp] theorem e_lenK : dLenK [x] st Q = onDk st x fun n kvs => Q (.int kvs.length) st := rfl
@[simp] theorem e_lstS {xs : List D} : lstS st (.lst xs) = some xs := rfl
@[simp] theorem e_seqX {xs : List D} : seqS st (.scr xs) = some xs := rfl
@[simp] theorem e_gTpT {k : DEnv → DSt → Prop} {h : DTGs} {ds : List D} : gTp i' h (.tup ds) r st k = (ds.length = i' ∧ h ds r st k) := rfl
@[simp] theorem e_oN {k : Option Int → DSt → Prop} : oNone r st k = k none st := rfl
@[simp] theorem e_oS {k : Option Int → DSt → Prop} : oSome f r st k = f r st fun d st1 => onI d fun i => k (some i) st1 := rfl
@[simp] theorem e_sl {fin : DK → List D → DSt → Prop} {lo hi : DTO} : dSlG fin f lo hi r st Q = f r st fun x st1 => lo r st1 fun l st2 => hi r st2 fun u st3 => dSlV fin x l u st3 Q := rfl
@[simp] theorem e_slT {fin : DK → List D → DSt → Prop} {lo hi : Option Int} {xs : List D} : dSlV fin (.tup xs) lo hi st Q = Q (.tup (cutD xs lo hi)) st := rfl
@[simp] theorem e_slL {fin : DK → List D → DSt → Prop} {lo hi : Option Int} {xs : List D} : dSlV fin (.lst xs) lo hi st Q = fin Q (cutD xs lo hi) st := rfl
@[simp] theorem e_finT {xs : List D} : finT Q xs st = Q (.lst xs) st := rfl
@[simp] theorem e_finN {xs : List D} : finN Q xs st = Q (.ref st.length) (st ++ [.lst xs]) := rfl
@[simp] theorem e_index : dIndex f fs r st Q = f r st fun x st1 => IdxD st1 x ∧ fs r st1 fun ds st2 => mIndex x ds st2 Q := rfl
@[simp] theorem e_idxT {xs : List D} : IdxD st (.tup xs) = True := rfl
@[simp] theorem e_idxL {xs : List D} : IdxD st (.lst xs) = True := rfl
theorem idx_ref {n : Nat} {xs : List D} (h : st[n]? = some (.lst xs)) : IdxD st (.ref n) = True := by unfold IdxD; simp only [h]
@[simp] theorem e_mIx : mIndex x [.int i] st Q = onO (ixS st x) fun xs => onO (intsD xs) fun ns => onO (ixOf i ns) fun j => Q (.int (j : Nat)) st := rfl
@[simp] theorem e_ixST {xs : List D} : ixS st (.tup xs) = some xs := rfl
@[simp] theorem e_ixSL {xs : List D} : ixS st (.lst xs) = some xs := rfl
theorem ixS_ref {n : Nat} {xs : List D} (h : st[n]? = some (.lst xs)) : ixS st (.ref n) = some xs := by unfold ixS; simp only [h]
@[simp] theorem e_mtL {m : D → List D → DSt → DK → Prop} : dMtL m f fs r st Q = f r st fun x st1 => LstD st1 x ∧ fs r st1 fun ds st2 => m x ds st2 Q := rfl
@[simp] theorem e_w {k : DIt → DSt → Prop} : wSeq f r st k = f r st fun d st1 => onO (itOf st1 d) fun I => k I st1 := rfl
@[simp] theorem e_w1 {k : DIt → DSt → Prop} : wRng1 fs r st k = fs r st fun ds st1 => on1 ds fun x => onI x fun j => (-(2 ^ 62) ≤ j ∧ j < 2 ^ 62) ∧ k ⟨rgD 0 j.toNat, none⟩ st1 := rfl
@[simp] theorem e_w2 {k : DIt → DSt → Prop} : wRng2 fs r st k = fs r st fun ds st1 => on2 ds fun x y => onI x fun i => onI y fun j => (-(2 ^ 62) ≤ i ∧ i < 2 ^ 62 ∧ -(2 ^ 62) ≤ j ∧ j < 2 ^ 62) ∧ k ⟨rgD i (j - i).toNat, none⟩ st1 := rfl
@[simp] theorem e_wE {k : DIt → DSt → Prop} : wEnum fs r st k = fs r st fun ds st1 => on1 ds fun x => onO (itOf st1 x) fun I => k ⟨enumD I.items, I.src⟩ st1 := rfl
@[simp] theorem e_wZ {k : DIt → DSt → Prop} : wZip fs r st k = fs r st fun ds st1 => on2 ds fun x y => onO (itT x) fun I => onO (itT y) fun J => k ⟨zipD I.items J.items, none⟩ st1 := rfl
@[simp] theorem e_itK {xs : List D} : itOf st (.tuk xs) = some ⟨xs, none⟩ := rfl
@[simp] theorem e_itT {xs : List D} : itOf st (.tup xs) = some ⟨xs, none⟩ := rfl
@[simp] theorem e_itL {xs : List D} : itOf st (.lst xs) = some ⟨xs, none⟩ := rfl
@[simp] theorem e_itT2 {xs : List D} : itT (.tup xs) = some ⟨xs, none⟩ := rfl
@[simp] theorem e_itL2 {xs : List D} : itL st (.lst xs) = some ⟨xs, none⟩ := rfl
@[simp] theorem e_lc {w : DTI} {g : DTG} {vs : List Nat} {fin : DK → List D → DSt → Prop} : dLcG w g t f vs fin r st Q = w r st fun I st1 => I.items.length ≤ sizeLine ∧ compL I g t f (wipeD r vs) (fin Q) I.items [] st1 := rfl
@[simp] theorem e_for {w : DTI} {g : DTG} : sFor w g F E r st = w r st fun I st1 => forL I g F E st1 I.items r st1 := rfl
@[simp] theorem e_wipe0 : wipeD r [] = r := rfl
@[simp] theorem e_wipe {v : Nat} {vs : List Nat} : wipeD r (v :: vs) = (wipeD r vs).set v none := rfl
@[simp] theorem e_okI {xs : List D} {P : Prop} : okI ⟨xs, none⟩ st P = P := rfl
@[simp] theorem e_okR {xs ys : List D} {n : Nat} {P : Prop} : okI ⟨xs, some (n, .lst ys)⟩ st P = (st[n]? = some (.lst ys) ∧ P) := rfl
end
def Ev (f : DTE) (r : DEnv) (st : DSt) (d : D) : Prop := ∀ Q : DK, Q d st → f r st Q
def EvT (t : DTT) (r : DEnv) (st : DSt) (b : Bool) : Prop := ∀ Q : Bool → DSt → Prop, Q b st → t r st Q
theorem compL_map {g : DTG} {tt : DTT} {te : DTE} {r : DEnv} {Q : List D → DSt → Prop} {st : DSt} {xs : List D} (p : D → Bool) (h : D → D) :
    ∀ (items acc : List D), (∀ d ∈ items, ∀ Q' : DEnv → DSt → Prop, (∀ r2, EvT tt r2 st (p d) → (p d = true → Ev te r2 st (h d)) → Q' r2 st) → g d r st Q') → Q (acc ++ (items.filter p).map h) st → compL ⟨xs, none⟩ g tt te r Q items acc st
  | [], acc, _, q => by
    have q' : Q acc st := by simpa using q
    exact q'
  | d :: ds, acc, hh, q => by
    show g d r st _
    refine hh d List.mem_cons_self _ fun r2 e1 e2 => e1 _ ?_
    cases e : p d with
    | true =>
      refine iteT (e2 e _ (compL_map p h ds _ (fun d' hd => hh d' (List.mem_cons_of_mem _ hd)) ?_))
      rw [List.filter_cons_of_pos e, List.map_cons] at q
      simpa using q
    | false =>
      refine iteF (compL_map p h ds _ (fun d' hd => hh d' (List.mem_cons_of_mem _ hd)) ?_)
      rw [List.filter_cons_of_neg (by rw [e]; decide)] at q
      exact q
theorem lc_map {te : DTE} {r : DEnv} {Q : List D → DSt → Prop} {st : DSt} {xs items : List D} {i : Nat} (h : D → D) (he : ∀ d ∈ items, Ev te (r.set i (some d)) st (h d)) (q : Q (items.map h) st) : compL ⟨xs, none⟩ (gNm i) dtYes te r Q items [] st := by
  refine compL_map (fun _ => true) h items [] (fun d hd Q' k => k _ (fun Q q => q) fun _ => he d hd) ?_
  rw [List.filter_eq_self.mpr (fun _ _ => rfl)]
  simpa using q
theorem lc_if {tt : DTT} {te : DTE} {r : DEnv} {Q : List D → DSt → Prop} {st : DSt} {xs items : List D} {i : Nat} (p : D → Bool) (h : D → D) (ht : ∀ d ∈ items, EvT tt (r.set i (some d)) st (p d)) (he : ∀ d ∈ items, p d = true → Ev te (r.set i (some d)) st (h d)) (q : Q ((items.filter p).map h) st) : compL ⟨xs, none⟩ (gNm i) tt te r Q items [] st :=
  compL_map p h items [] (fun d hd Q' k => k _ (ht d hd) (he d hd)) (by simpa using q)
theorem rgD_mem {lo : Int} {n : Nat} {d : D} (h : d ∈ rgD lo n) : ∃ i : Nat, i < n ∧ d = .int (lo + (i : Nat)) := by
  obtain ⟨i, hi⟩ := List.mem_iff_getElem?.mp h
  obtain ⟨lt, e⟩ := rgD_get hi
  exact ⟨i, lt, e⟩
theorem rgD0 (n : Nat) : rgD 0 n = (List.range n).map fun i => D.int (i : Nat) := by
  unfold rgD
  exact List.map_congr_left fun i _ => by rw [Int.zero_add]
theorem lc_rng {te : DTE} {r : DEnv} {Q : List D → DSt → Prop} {st : DSt} {xs : List D} {n i : Nat} (h : Nat → D) (he : ∀ k : Nat, k < n → Ev te (r.set i (some (.int (k : Nat)))) st (h k)) (q : Q ((List.range n).map h) st) : compL ⟨xs, none⟩ (gNm i) dtYes te r Q (rgD 0 n) [] st := by
  refine lc_map (fun d => match d with | .int i => h i.toNat | _ => .non) (fun d hd => ?_) ?_
  · obtain ⟨k, lt, rfl⟩ := rgD_mem hd
    rw [Int.zero_add]
    exact he k lt
  · rw [rgD0, List.map_map]
    exact q
theorem Wk.id {b : DSt} {P : DEnv → DSt → Prop} {r : DEnv} {st : DSt} (h : P r st) : Wk b P r st := .inl h
theorem for_inv {I : DIt} {g : DTG} {F : DTS} {E : DEnds} {b : DSt} (W : List D → DEnv → DSt → Prop)
    (turn : ∀ d ds r st (N : DEnv → DSt → Prop), (∀ r st, Wk b (W ds) r st → N r st) → W (d :: ds) r st → okI I st (g d r st fun r1 st1 => F { nx := N, rt := E.rt, bk := E.nx, ct := N } r1 st1)) (done : ∀ r st, W [] r st → okI I st (E.nx r st)) :
    ∀ (items : List D) (r : DEnv) (st : DSt), W items r st → forL I g F E b items r st
  | [], r, st, h => done r st h
  | d :: ds, r, st, h => by
    refine turn d ds r st _ (fun r st w => ?_) h
    rcases w with w | ⟨r', n, h1, h2, h3, h4, h5, w⟩
    · exact .inl (for_inv W turn done ds r st w)
    · exact .inr ⟨r', n, h1, h2, h3, h4, h5, for_inv W turn done ds r' _ w⟩
theorem while_inv {t : DTT} {F : DTS} {E : DEnds} {b : DSt} (W : Nat → DEnv → DSt → Prop)
    (turn : ∀ m r st (N : DEnv → DSt → Prop), (∀ k r st, k < m → Wk b (W k) r st → N r st) → W m r st → t r st fun c st1 => if c = true then F { nx := N, rt := E.rt, bk := E.nx, ct := N } r st1 else E.nx r st1) :
    ∀ (n m : Nat) (r : DEnv) (st : DSt), m < n → W m r st → whileL t F E b n r st
  | 0, m, r, st, lt, _ => absurd lt (Nat.not_lt_zero m)
  | n + 1, m, r, st, lt, h => by
    refine turn m r st _ (fun k r st lk w => ?_) h
    rcases w with w | ⟨r', j, h1, h2, h3, h4, h5, w⟩
    · exact .inl (while_inv W turn n k r st (by omega) w)
    · exact .inr ⟨r', j, h1, h2, h3, h4, h5, while_inv W turn n k r' _ (by omega) w⟩
theorem s_while {t : DTT} {F : DTS} {E : DEnds} {r : DEnv} {st : DSt} (W : Nat → DEnv → DSt → Prop) (m : Nat) (h : W m r st)
    (turn : ∀ m r st' (N : DEnv → DSt → Prop), (∀ k r st', k < m → Wk st (W k) r st' → N r st') → W m r st' → t r st' fun c st1 => if c = true then F { nx := N, rt := E.rt, bk := E.nx, ct := N } r st1 else E.nx r st1) : sWhile t F E r st :=
  ⟨m + 1, while_inv W turn (m + 1) m r st (Nat.lt_succ_self m) h⟩
end DL
namespace DL
open PySem PySem.Spec PyProof.Rows L2 LamX PySem.W SL
def F_ring_at : DTS := (sSeq (sSet 2 (dOp dIx (dVar 0) (dVar 1))) (sSeq (sFor (wRng1 (daCons (dCB dLen (daCons (dVar 2) daNil)) daNil)) (gNm 3) (sFor (wSeq (dOp dIx (dVar 2) (dVar 3))) (gNm 4) (sFor (wSeq (dOp dIx (dVar 2) (dVar 4))) (gNm 5) (sIf (dTest (dOp dIn (dVar 3) (dOp dIx (dVar 2) (dVar 5)))) (sRet (dTup (daCons (dVar 3) (daCons (dVar 4) (daCons (dVar 5) daNil))))) sNext)))) (sRet (dC .non))))
def F__law_pot : DTS := (sSeq (sSet 2 (dIf (dTest (dOp dLtG (dVar 1) (dCB dLen (daCons (dVar 0) daNil)))) (dOp dIx (dVar 0) (dVar 1)) (dOp dAdd (dOp dMul (dC (.int 17)) (dVar 1)) (dC (.int 3))))) (sSeq (sSet 3 (dIf (dTest (dOp dGe (dCB dAbs (daCons (dVar 2) daNil)) (dOp dPow (dC (.int 10)) (dC (.int 18))))) (dOp dMod (dCB dAbs (daCons (dVar 2) daNil)) (dOp dPow (dOp dPow (dC (.int 10)) (dC (.int 60))) (dC (.int 3)))) (dC (.int 0)))) (sRet (dLstN (daCons (dVar 3) (daCons (dOp dMod (dOp dAdd (dOp dAdd (dOp dMul (dOp dMod (dVar 2) (dC (.int 2305843009213693951))) (dC (.int 69621))) (dOp dMul (dOp dMul (dC (.int 104729)) (dVar 1)) (dVar 1))) (dC (.int 71))) (dC (.int 2305843009213693921))) (daCons (dC (.int 0)) daNil)))))))
def F__law_take : DTS := (sSeq (sIf (dTest (dOp dGt (dOp dIx (dVar 0) (dC (.int 0))) (dC (.int 0)))) (sSeq (sSet 2 (dOp dMod (dOp dIx (dVar 0) (dC (.int 0))) (dVar 1))) (sSeq (sAsg (dOp dDiv (dOp dIx (dVar 0) (dC (.int 0))) (dVar 1)) (gSb (dVar 0) (dC (.int 0)))) (sRet (dVar 2)))) sNext) (sSeq (sAsg (dOp dAdd (dOp dIx (dVar 0) (dC (.int 2))) (dC (.int 1))) (gSb (dVar 0) (dC (.int 2)))) (sSeq (sSet 3 (dOp dIx (dLst (daCons (dC (.int 2147483647)) (daCons (dC (.int 2147483629)) (daCons (dC (.int 2147483587)) (daCons (dC (.int 2147483579)) (daCons (dC (.int 2147483563)) daNil)))))) (dOp dMod (dOp dIx (dVar 0) (dC (.int 2))) (dC (.int 5))))) (sSeq (sSet 4 (dOp dMod (dOp dPow (dOp dAdd (dOp dAdd (dOp dIx (dVar 0) (dC (.int 1))) (dOp dMul (dOp dMul (dC (.int 40009)) (dOp dIx (dVar 0) (dC (.int 2)))) (dOp dIx (dVar 0) (dC (.int 2))))) (dC (.int 31))) (dC (.int 3))) (dVar 3))) (sRet (dOp dMod (dOp dDiv (dOp dMod (dOp dMul (dVar 4) (dOp dAdd (dOp dMod (dVar 4) (dC (.int 10009))) (dOp dMul (dC (.int 89)) (dOp dIx (dVar 0) (dC (.int 2)))))) (dC (.int 2305843009213693907))) (dC (.int 89))) (dVar 1)))))))
def F__law_mixed (g__law_take : DRs) : DTS := (sSeq (sPar 2 3 (daCons (dCB dListN (daCons (dVar 1) daNil)) (daCons (dLstN daNil) daNil))) (sSeq (sWhile (dTest (dOp dNe (dVar 2) (dLst daNil))) (sDrop (dMtL mAppend (dVar 3) (daCons (dMtL mPopAt (dVar 2) (daCons (dCB g__law_take (daCons (dVar 0) (daCons (dCB dLen (daCons (dVar 2) daNil)) daNil))) daNil)) daNil)))) (sRet (dVar 3))))
def F__law_line : DTS := (sRet (dCB dTuple (daCons (dLcG (wRng1 (daCons (dVar 0) daNil)) (gNm 2) dtYes (dOp dMod (dOp dAdd (dVar 1) (dVar 2)) (dVar 0)) [2] finT) daNil)))
def F__law_probe (g__law_take : DRs) (g__law_mixed : DRs) (g__law_line : DRs) : DTS := (sSeq (sIf (dTest (dOp dEq (dCB g__law_take (daCons (dVar 0) (daCons (dC (.int 3)) daNil))) (dC (.int 0)))) (sRet (dCB g__law_line (daCons (dVar 1) (daCons (dCB g__law_take (daCons (dVar 0) (daCons (dVar 1) daNil))) daNil)))) sNext) (sRet (dCB dTuple (daCons (dCB g__law_mixed (daCons (dVar 0) (daCons (dLRg1 finT (dVar 1)) daNil))) daNil))))
def F__law_ordered_table : DTS := (sRet (dCB dTuple (daCons (dLcG (wRng1 (daCons (dCB dLen (daCons (dVar 0) daNil)) daNil)) (gNm 1) dtYes (dCB dTuple (daCons (dCB (dSortI finT) (daCons (dSlG finT (dVar 0) (oSome (dOp dAdd (dIndex (dVar 0) (daCons (dVar 1) daNil)) (dC (.int 1)))) oNone) daNil)) daNil)) [1] finT) daNil)))
end DL
namespace DL
open PySem PySem.Spec PyProof.Rows L2 LamX PySem.W SL
@[simp] theorem at0 {α : Type} {a : α} {xs : List α} : atI (a :: xs) 0 = some a := by unfold atI ixN; simp
@[simp] theorem at1 {α : Type} {a b : α} {xs : List α} : atI (a :: b :: xs) 1 = some b := atI_nat (j := 1) rfl
@[simp] theorem at2 {α : Type} {a b c : α} {xs : List α} : atI (a :: b :: c :: xs) 2 = some c := atI_nat (j := 2) rfl
def setS (o i d : D) (st : DSt) (P : DSt → Prop) : Prop := match o with
  | .ref n => onI i fun k => match st[n]? with
    | some (.lst xs) => onO (ixN xs.length k) fun j => P (st.set n (.lst (xs.set j d)))
    | _ => False
  | _ => False
@[simp] theorem e_gSb {fo fi : DTE} {x : D} {r : DEnv} {st : DSt} {k : DEnv → DSt → Prop} : gSb fo fi x r st k = fo r st fun o st1 => fi r st1 fun i st2 => setS o i x st2 (k r) := rfl
theorem setS_ref {n : Nat} {k : Int} {d : D} {st : DSt} {P : DSt → Prop} {xs : List D} (h : st[n]? = some (.lst xs)) : setS (.ref n) (.int k) d st P = onO (ixN xs.length k) fun j => P (st.set n (.lst (xs.set j d))) := by
  unfold setS
  simp only [e_onI, h]
def PotO (n : Nat) (o : O) : Prop := ∃ g m c : Int, o = .lst [.int g, .int m, .int c] ∧ 0 ≤ g ∧ g < 10 ^ 400 ∧ 0 ≤ m ∧ m < 2 ^ 61 ∧ 0 ≤ c ∧ c + n ≤ 1000000
theorem PotO.less {n m : Nat} {o : O} (h : PotO n o) (l : m ≤ n) : PotO m o := by
  obtain ⟨g, a, c, h1, h2, h3, h4, h5, h6, h7⟩ := h
  exact ⟨g, a, c, h1, h2, h3, h4, h5, h6, by omega⟩
def Pot (n : Nat) (p : Nat) (st : DSt) : Prop := ∃ o, st[p]? = some o ∧ PotO n o
theorem Pot.less {n m p : Nat} {st : DSt} (h : Pot n p st) (l : m ≤ n) : Pot m p st := by
  obtain ⟨o, e, h⟩ := h
  exact ⟨o, e, h.less l⟩
theorem Pot.lt {n p : Nat} {st : DSt} (h : Pot n p st) : p < st.length := by
  obtain ⟨o, e, h⟩ := h
  exact (List.getElem?_eq_some_iff.mp e).1
theorem Pot.set {n p : Nat} {st : DSt} {o : O} (lt : p < st.length) (h : PotO n o) : Pot n p (st.set p o) := ⟨o, List.getElem?_set_self lt, h⟩
theorem Pot.app {n p : Nat} {st : DSt} {os : List O} (h : Pot n p st) : Pot n p (st ++ os) := by
  obtain ⟨o, e, h⟩ := h
  exact ⟨o, by rw [List.getElem?_append_left (List.getElem?_eq_some_iff.mp e).1]; exact e, h⟩
def g_take : DRs := fun ds st Q => ∃ (p : Nat) (z : Int) (n : Nat), ds = [.ref p, .int z] ∧ Pot (n + 1) p st ∧ 0 < z ∧ z ≤ 1000 ∧ ∀ (r : Int) (o : O), 0 ≤ r → r < z → PotO n o → Q (.int r) (st.set p o)
theorem sem_take (ds : List D) (st : DSt) (Q : DK) (h : g_take ds st Q) : F__law_take { nx := fun _ st' => Rt st Q .non st', rt := Rt st Q } (startD 5 ds) st := by
  obtain ⟨p, z, n, rfl, ⟨o, e, g, m, c, rfl, g0, g1, m0, m1, c0, c1⟩, z0, z1, q⟩ := h
  have lt : p < st.length := (List.getElem?_eq_some_iff.mp e).1
  have sq := seq_ref e
  have st5 : startD 5 [D.ref p, D.int z] = [some (.ref p), some (.int z), none, none, none] := rfl
  by_cases gp : 0 < g
  · simp [F__law_take, st5, sq, gp, setS_ref e, ixN, CDiv, z0]
    refine ⟨by omega, .inl (q _ _ (Int.emod_nonneg _ (by omega)) (Int.emod_lt_of_pos _ z0) ⟨_, _, _, rfl, Int.ediv_nonneg g0 (by omega), ?_, m0, m1, c0, by omega⟩)⟩
    exact Int.lt_of_le_of_lt (Int.ediv_le_self z g0) g1
  · have e2 : (st.set p (.lst [.int g, .int m, .int (c + 1)]))[p]? = some (.lst [.int g, .int m, .int (c + 1)]) := List.getElem?_set_self lt
    have sq2 := seq_ref e2
    simp [F__law_take, st5, sq, gp, setS_ref e, ixN, sq2]
    have r0 : 0 ≤ (c + 1) % 5 := Int.emod_nonneg _ (by decide)
    have r1 : (c + 1) % 5 < 5 := Int.emod_lt_of_pos _ (by decide)
    obtain ⟨pr, hpr, p0, p1⟩ : ∃ pr : Int, atI [D.int 2147483647, .int 2147483629, .int 2147483587, .int 2147483579, .int 2147483563] ((c + 1) % 5) = some (.int pr) ∧ 0 < pr ∧ pr ≤ 2147483647 := by
      have cs : (c + 1) % 5 = 0 ∨ (c + 1) % 5 = 1 ∨ (c + 1) % 5 = 2 ∨ (c + 1) % 5 = 3 ∨ (c + 1) % 5 = 4 := by omega
      rcases cs with e | e | e | e | e <;> rw [e]
      · exact ⟨2147483647, atI_nat (j := 0) rfl, by decide, by decide⟩
      · exact ⟨2147483629, atI_nat (j := 1) rfl, by decide, by decide⟩
      · exact ⟨2147483587, atI_nat (j := 2) rfl, by decide, by decide⟩
      · exact ⟨2147483579, atI_nat (j := 3) rfl, by decide, by decide⟩
      · exact ⟨2147483563, atI_nat (j := 4) rfl, by decide, by decide⟩
    rw [hpr]
    have b1 : 40009 * (c + 1) ≤ 40009 * 1000000 := by omega
    have b2 : 0 ≤ 40009 * (c + 1) := by omega
    have b3 : 0 ≤ 40009 * (c + 1) * (c + 1) := Int.mul_nonneg b2 (by omega)
    have b4 : 40009 * (c + 1) * (c + 1) ≤ (40009 * 1000000) * 1000000 := Int.mul_le_mul b1 (by omega) (by omega) (by decide)
    have ib : Builtin.Int.intBits (m + 40009 * (c + 1) * (c + 1) + 31) ≤ 64 := intBits_le_64 (by omega) (by omega)
    simp only [e_onO, e_onI]
    refine ⟨.inl ⟨by decide, by decide⟩, .inl ⟨by omega, by omega⟩, by omega, p0, .inl ⟨by decide, by decide⟩, ?_⟩
    generalize (m + 40009 * (c + 1) * (c + 1) + 31) ^ 3 = y
    have y0 : 0 ≤ y % pr := Int.emod_nonneg _ (by omega)
    have y1 : y % pr < pr := Int.emod_lt_of_pos _ p0
    refine ⟨.inl ⟨by omega, by omega⟩, ⟨by decide, by decide⟩, z0, .inl (q _ _ (Int.emod_nonneg _ (by omega)) (Int.emod_lt_of_pos _ z0) ⟨_, _, _, rfl, g0, g1, m0, m1, by omega, by omega⟩)⟩
theorem ar_take (ds : List D) (st : DSt) (Q : DK) (h : g_take ds st Q) : ds.length = 2 := by
  obtain ⟨p, z, n, rfl, _⟩ := h
  rfl
def g_pot : DRs := fun ds st Q => ∃ (ns : List Int) (x : D) (k : Nat), ds = [x, .int k] ∧ Scr ns x ∧ k ≤ 3 ∧ ∀ o, PotO 1000000 o → Q (.ref st.length) (st ++ [o])
theorem ar_pot (ds : List D) (st : DSt) (Q : DK) (h : g_pot ds st Q) : ds.length = 2 := by
  obtain ⟨ns, x, k, rfl, _⟩ := h
  rfl
theorem sem_pot (ds : List D) (st : DSt) (Q : DK) (h : g_pot ds st Q) : F__law_pot { nx := fun _ st' => Rt st Q .non st', rt := Rt st Q } (startD 4 ds) st := by
  obtain ⟨ns, x, k, rfl, hx, k3, q⟩ := h
  have sq := hx.seq
  have st4 : startD 4 [x, D.int (k : Nat)] = [some x, some (.int k), none, none] := rfl
  have e60 : (10 : Int) ^ 60 = 1000000000000000000000000000000000000000000000000000000000000 := by decide +kernel
  have ib1 : Builtin.Int.intBits 10 ≤ 64 := intBits_le_64 (by decide) (by decide)
  have ib60 : Builtin.Int.intBits (10 ^ 60) * 3 ≤ 2 ^ 27 := by decide +kernel
  have fin : ∀ (v : Int) (g : Int), 0 ≤ g → g < 10 ^ 400 → CMul (v % 2305843009213693951) 69621 ∧ CMul 104729 (k : Int) ∧ CMul (104729 * (k : Int)) k ∧ Rt st Q (.ref st.length) (st ++ [.lst [.int g, .int ((v % 2305843009213693951 * 69621 + 104729 * (k : Int) * (k : Int) + 71) % 2305843009213693921), .int 0]]) := fun v g g0 g1 => by
    have a0 : 0 ≤ v % 2305843009213693951 := Int.emod_nonneg _ (by decide)
    have a1 : v % 2305843009213693951 < 2305843009213693951 := Int.emod_lt_of_pos _ (by decide)
    refine ⟨.inl ⟨by omega, by omega⟩, .inl ⟨by decide, by decide⟩, .inl ⟨by omega, by omega⟩, .inl (q _ ⟨g, _, 0, rfl, g0, g1, Int.emod_nonneg _ (by decide), Int.lt_trans (Int.emod_lt_of_pos _ (by decide)) (by decide), by decide, by decide⟩)⟩
  by_cases lt : k < ns.length
  · have ha : atI (ns.map D.int) (k : Int) = some (.int ns[k]) := atI_nat (by rw [List.getElem?_map, List.getElem?_eq_getElem lt]; rfl)
    simp [F__law_pot, st4, lt, ha, sq]
    refine ⟨by omega, ?_⟩
    generalize (if ns[k] < 0 then -ns[k] else ns[k]) = w
    split
    · refine ⟨by omega, by decide +kernel, ?_⟩
      exact fin _ _ (Int.emod_nonneg _ (by decide)) (Int.lt_of_lt_of_le (Int.emod_lt_of_pos _ (by decide)) (by decide +kernel))
    · exact fin _ 0 (by decide) (by decide +kernel)
  · simp [F__law_pot, st4, lt, sq]
    refine ⟨.inl ⟨by decide, by decide⟩, by omega, ?_⟩
    generalize (if 17 * (k : Int) + 3 < 0 then -(17 * (k : Int) + 3) else 17 * (k : Int) + 3) = w
    split
    · refine ⟨by omega, by decide +kernel, ?_⟩
      exact fin _ _ (Int.emod_nonneg _ (by decide)) (Int.lt_of_lt_of_le (Int.emod_lt_of_pos _ (by decide)) (by decide +kernel))
    · exact fin _ 0 (by decide) (by decide +kernel)
theorem PotO.lst {n : Nat} {o : O} (h : PotO n o) : ∃ xs, o = .lst xs := by
  obtain ⟨g, m, c, e, _⟩ := h
  exact ⟨_, e⟩
def lineI (n : Nat) (b : Int) : List Int := (List.range n).map fun i : Nat => (b + (i : Int)) % (n : Int)
def g_line : DRs := fun ds st Q => ∃ (n : Nat) (b : Int), ds = [.int n, .int b] ∧ 0 < n ∧ n ≤ 1000 ∧ Q (.tup ((lineI n b).map D.int)) st
theorem ar_line (ds : List D) (st : DSt) (Q : DK) (h : g_line ds st Q) : ds.length = 2 := by
  obtain ⟨n, b, rfl, _⟩ := h
  rfl
theorem sem_line (ds : List D) (st : DSt) (Q : DK) (h : g_line ds st Q) : F__law_line { nx := fun _ st' => Rt st Q .non st', rt := Rt st Q } (startD 3 ds) st := by
  obtain ⟨n, b, rfl, n0, n1, q⟩ := h
  have st3 : startD 3 [D.int (n : Int), D.int b] = [some (.int n), some (.int b), none] := rfl
  simp [F__law_line, st3, rgD_length]
  refine ⟨by omega, Nat.le_of_lt (small1000 n1), lc_rng (fun k => .int ((b + (k : Int)) % (n : Int))) (fun k lt Q' q' => ?_) ?_⟩
  · simp
    exact ⟨n0, q'⟩
  · simp
    refine .inl ?_
    unfold lineI at q
    rw [List.map_map] at q
    exact q
theorem take_same {st st1 : DSt} {junk : List O} (l : st1.length = st.length) : (st1 ++ junk).take st.length = st1 := by
  rw [← l]
  simp
theorem cloS_app {st st1 : DSt} {junk : List O} (l : st1.length = st.length) (cs : ∀ (i : Nat) (o : O), st1[i]? = some o → st[i]? = some o ∨ cloO st.length o = true) : cloS st st.length (st1 ++ junk) := fun i o lt e => by
  rw [List.getElem?_append_left (by omega)] at e
  exact cs i o e
theorem rt_drop {st st1 : DSt} {junk : List O} {d : D} {Q : DK} (l : st1.length = st.length) (c : clo st.length d = true) (cs : ∀ (i : Nat) (o : O), st1[i]? = some o → st[i]? = some o ∨ cloO st.length o = true) (q : Q d st1) : Rt st Q d (st1 ++ junk) :=
  .inr (.inl ⟨st.length, Nat.le_refl _, by rw [List.length_append]; omega, c, cloS_app l cs, by rw [take_same l]; exact q⟩)
theorem rt_list {st st1 : DSt} {junk : List O} {n : Nat} {ds : List D} {Q : DK} (l : st1.length = st.length) (le : st.length ≤ n) (e : (st1 ++ junk)[n]? = some (.lst ds)) (c : clos st.length ds = true) (cs : ∀ (i : Nat) (o : O), st1[i]? = some o → st[i]? = some o ∨ cloO st.length o = true) (q : Q (.lst ds) st1) : Rt st Q (.ref n) (st1 ++ junk) :=
  .inr (.inr ⟨st.length, .lst ds, Nat.le_refl _, by rw [List.length_append]; omega, .own le e (.same c), cloS_app l cs, by rw [take_same l]; exact q⟩)
theorem clos_ints (n : Nat) : ∀ ns : List Int, clos n (ns.map D.int) = true
  | [] => by simp [clos]
  | i :: ns => by
    rw [List.map_cons]
    simp only [clos, clo, Bool.true_and]
    exact clos_ints n ns
theorem PotO.clo {n m : Nat} {o : O} (h : PotO n o) : cloO m o = true := by
  obtain ⟨g, a, c, rfl, _⟩ := h
  simp [cloO, clos, DL.clo]
theorem cs_set {st : DSt} {p n m : Nat} {o : O} (h : PotO n o) : ∀ (i : Nat) (u : O), (st.set p o)[i]? = some u → st[i]? = some u ∨ cloO m u = true := fun i u e => by
  by_cases z : i = p
  · subst z
    have lt : i < st.length := by
      have := (List.getElem?_eq_some_iff.mp e).1
      rw [List.length_set] at this
      exact this
    rw [List.getElem?_set_self lt] at e
    cases e
    exact .inr h.clo
  · rw [List.getElem?_set_ne (fun w => z w.symm)] at e
    exact .inl e
mutual
theorem pdT_clo {n : Nat} : ∀ {d : D} {p : PyData}, pdT d = some p → clo n d = true
  | .non, _, e => by simp [clo]
  | .bl b, _, e => by simp [clo]
  | .int b, _, e => by simp [clo]
  | .str b, _, e => by simp [clo]
  | .tup ds, _, e => by
    simp only [pdT, Option.map_eq_some_iff] at e
    obtain ⟨ps, e, rfl⟩ := e
    simp only [clo]
    exact pdTs_clo e
  | .tuk ds, _, e => by
    simp only [pdT, Option.map_eq_some_iff] at e
    obtain ⟨ps, e, rfl⟩ := e
    simp only [clo]
    exact pdTs_clo e
  | .lst ds, _, e => by
    simp only [pdT, Option.map_eq_some_iff] at e
    obtain ⟨ps, e, rfl⟩ := e
    simp only [clo]
    exact pdTs_clo e
  | .scr ds, _, e => by
    simp only [pdT, Option.map_eq_some_iff] at e
    obtain ⟨ps, e, rfl⟩ := e
    simp only [clo]
    exact pdTs_clo e
  | .ref n, _, e => by simp [pdT] at e
theorem pdTs_clo {n : Nat} : ∀ {d : List D} {p : List PyData}, pdTs d = some p → clos n d = true
  | [], _, e => by simp [clos]
  | d :: ds, _, e => by
    unfold pdTs at e
    cases q : pdT d with
    | none => rw [q] at e; cases e
    | some y =>
      rw [q] at e
      simp only [Option.map_eq_some_iff] at e
      obtain ⟨ps, e, rfl⟩ := e
      simp only [clos, pdT_clo q, pdTs_clo e, Bool.and_self]
end
theorem sm_clos {k c n : Nat} {ds : List D} (h : ∀ d ∈ ds, Sm k c d) : clos n ds = true := by
  obtain ⟨ps, e, _⟩ := sm_all h
  exact pdTs_clo e
theorem Sm.clo {k c n : Nat} {d : D} (h : Sm k c d) : DL.clo n d = true := by
  obtain ⟨p, e, _⟩ := h
  exact pdT_clo e
theorem ne_nil {st : DSt} {n k c : Nat} {xs : List D} {Q : DK} (e : st[n]? = some (.lst xs)) (sm : ∀ d ∈ xs, Sm k c d) (hk : k ≤ 40) (q : Q (.bl (!xs.isEmpty)) st) : dEqG true (.ref n) (.lst []) st Q := by
  obtain ⟨ps, e1, el, l⟩ := sm_all sm
  have p1 : pdS st (.ref n) = some (.list ps) := by unfold pdS; simp only [e, e1]; rfl
  have p2 : pdS st (.lst []) = some (.list []) := by simp [pdS, pdT, pdTs]
  show dEqD true (.ref n) (.lst []) st Q
  unfold dEqD
  rw [p1, p2]
  refine ⟨⟨Sm.shaped (el_list (m := ps.length) el (Nat.le_refl _)) (by omega), by decide +kernel⟩, ?_⟩
  have ee : PyData.eqv (.list ps) (.list []) = ps.isEmpty := by cases ps <;> simp [PyData.eqv, PyData.eqvAll]
  have e3 : ps.isEmpty = xs.isEmpty := by
    cases ps <;> cases xs <;> simp at l ⊢
  show Q (.bl (!PyData.eqv (.list ps) (.list []))) st
  rw [ee, e3]
  exact q
def g_mixed : DRs := fun ds st Q => ∃ (p : Nat) (x : D) (xs : List D) (n : Nat), ds = [.ref p, x] ∧ seqS st x = some xs ∧ x ≠ .ref p ∧ xs.length ≤ 900 ∧ (∀ d ∈ xs, Sm 30 100000 d) ∧ Pot (n + xs.length) p st ∧ ∀ (ys : List D) (o : O), ys.Perm xs → PotO n o → Q (.lst ys) (st.set p o)
theorem ar_mixed (ds : List D) (st : DSt) (Q : DK) (h : g_mixed ds st Q) : ds.length = 2 := by
  obtain ⟨ns, x, xs, k, rfl, _⟩ := h
  rfl
theorem take_outD {α : Type} : ∀ (l : List α) (i : Nat) (h : i < l.length), (l[i] :: l.eraseIdx i).Perm l
  | a :: l, 0, _ => List.Perm.refl _
  | a :: l, i + 1, h => by
    have z := take_outD l i (by simpa using h)
    exact (List.Perm.swap _ _ _).trans (List.Perm.cons a z)
theorem pop_ref {st : DSt} {n : Nat} {xs : List D} {i : Int} {Q : DK} (e : st[n]? = some (.lst xs)) (i0 : 0 ≤ i) (lt : i.toNat < xs.length) (few : xs.length ≤ 1000) (q : Q xs[i.toNat] (st.set n (.lst (xs.eraseIdx i.toNat)))) : mPopAt (.ref n) [.int i] st Q := by
  unfold mPopAt
  simp only [e_on1, e_onI, onL, e]
  refine ⟨⟨by omega, by omega⟩, ?_⟩
  have z : seqIndex? i xs.length = some i.toNat := seqIndex_of i0 (by omega)
  rw [z]
  show onO xs[i.toNat]? _
  rw [List.getElem?_eq_getElem lt]
  exact q
theorem append_ref {st : DSt} {n : Nat} {xs : List D} {y : D} {Q : DK} (e : st[n]? = some (.lst xs)) (lt : xs.length < sizeLine) (q : Q .non (st.set n (.lst (xs ++ [y])))) : mAppend (.ref n) [y] st Q := by
  unfold mAppend
  simp only [e_on1, onL, e]
  exact ⟨lt, q⟩
theorem sem_mixed (ds : List D) (st : DSt) (Q : DK) (h : g_mixed ds st Q) : F__law_mixed g_take { nx := fun _ st' => Rt st Q .non st', rt := Rt st Q } (startD 4 ds) st := by
  obtain ⟨p, x, xs, n, rfl, sq, ne, l, sm, ⟨o, e, po⟩, q⟩ := h
  have lt : p < st.length := (List.getElem?_eq_some_iff.mp e).1
  have st4 : startD 4 [D.ref p, x] = [some (.ref p), some x, none, none] := rfl
  simp [F__law_mixed, st4, sq]
  refine s_while (fun m r st' => ∃ (left found : List D) (o : O), r = [some (.ref p), some x, some (.ref st.length), some (.ref (st.length + 1))] ∧ st' = st.set p o ++ [.lst left, .lst found] ∧ PotO (n + left.length) o ∧ (found ++ left).Perm xs ∧ m = left.length) xs.length ⟨xs, [], o, rfl, ?_, po, by simp, rfl⟩ ?_
  · have z : st.set p o = st := by
      refine List.ext_getElem? fun i => ?_
      by_cases w : i = p
      · subst w; rw [List.getElem?_set_self lt, e]
      · rw [List.getElem?_set_ne (fun w' => w w'.symm)]
    rw [z]
  · rintro m r st' N hN ⟨left, found, o, rfl, rfl, po, pm, rfl⟩
    have ll : (st.set p o).length = st.length := List.length_set
    have ea : (st.set p o ++ [O.lst left, .lst found])[st.length]? = some (.lst left) := by rw [List.getElem?_append_right (by omega), ll]; simp
    have eb : (st.set p o ++ [O.lst left, .lst found])[st.length + 1]? = some (.lst found) := by rw [List.getElem?_append_right (by omega), ll]; simp
    have sml : ∀ d ∈ left, Sm 30 100000 d := fun d hd => sm d (pm.mem_iff.mp (List.mem_append_right _ hd))
    have smf : ∀ d ∈ found, Sm 30 100000 d := fun d hd => sm d (pm.mem_iff.mp (List.mem_append_left _ hd))
    simp
    refine ne_nil ea sml (by decide) ?_
    cases left with
    | nil =>
      simp
      refine rt_list ll (by omega) eb (sm_clos smf) (cs_set po) (q found o ?_ po)
      simpa using pm
    | cons z rest =>
      simp [LstD, ea, eb, seq_ref ea]
      have lxs := pm.length_eq
      rw [List.length_append, List.length_cons] at lxs
      refine ⟨p, _, n + rest.length, rfl, ⟨o, by rw [List.getElem?_append_left (by omega), List.getElem?_set_self lt], po⟩, by omega, by omega, fun r o' r0 r1 po' => ?_⟩
      have e2 : (st.set p o ++ [O.lst (z :: rest), .lst found]).set p o' = st.set p o' ++ [O.lst (z :: rest), .lst found] := by rw [List.set_append_left _ _ (by omega), List.set_set]
      have ll' : (st.set p o').length = st.length := List.length_set
      have ea' : (st.set p o' ++ [O.lst (z :: rest), .lst found])[st.length]? = some (.lst (z :: rest)) := by rw [List.getElem?_append_right (by omega), ll']; simp
      have hr : r.toNat < (z :: rest).length := by rw [List.length_cons]; omega
      rw [e2]
      refine pop_ref ea' r0 hr (by rw [List.length_cons]; omega) ?_
      have e3 : (st.set p o' ++ [O.lst (z :: rest), .lst found]).set st.length (.lst ((z :: rest).eraseIdx r.toNat)) = st.set p o' ++ [.lst ((z :: rest).eraseIdx r.toNat), .lst found] := by
        rw [List.set_append_right _ _ (by omega), ll', Nat.sub_self]
        rfl
      rw [e3]
      have eb' : (st.set p o' ++ [O.lst ((z :: rest).eraseIdx r.toNat), .lst found])[st.length + 1]? = some (.lst found) := by rw [List.getElem?_append_right (by omega), ll']; simp
      refine append_ref eb' (small1000 (by omega)) ?_
      have e4 : (st.set p o' ++ [O.lst ((z :: rest).eraseIdx r.toNat), .lst found]).set (st.length + 1) (.lst (found ++ [(z :: rest)[r.toNat]])) = st.set p o' ++ [.lst ((z :: rest).eraseIdx r.toNat), .lst (found ++ [(z :: rest)[r.toNat]])] := by
        rw [List.set_append_right _ _ (by omega), ll', show st.length + 1 - st.length = 1 by omega]
        rfl
      rw [e4]
      have le : ((z :: rest).eraseIdx r.toNat).length = rest.length := by
        rw [List.length_eraseIdx_of_lt hr, List.length_cons]
        omega
      refine hN rest.length _ _ (by simp) (.inl ⟨_, _, o', rfl, rfl, by rw [le]; exact po', ?_, le.symm⟩)
      refine List.Perm.trans ?_ pm
      rw [List.append_assoc]
      exact List.Perm.append_left found (take_outD _ _ hr)
end DL
namespace DL
open PySem PySem.Spec PyProof.Rows L2 LamX PySem.W SL
theorem all_map_id {α : Type} (p : α → Bool) (xs : List α) : (xs.map p).all id = xs.all p := by rw [List.all_map]; rfl
theorem all_end {α : Type} {xs : List α} {p : α → Bool} {Q : DK} {st : DSt} (q : Q (.bl (xs.all p)) st) : finT (fun d st1 => dAllR (fun bs => bs.all id) [d] st1 Q) (xs.map fun x => D.bl (p x)) st := by
  simp only [e_finT, e_allR, boolsD_map, e_onO]
  rw [all_map_id]
  exact q
theorem tuple_end {Q : DK} {xs : List D} {st : DSt} (q : Q (.tup xs) st) : finT (fun d st1 => dTuple [d] st1 Q) xs st := q
def rowD (ns : List Int) : D := .tup (ns.map D.int)
def rowsD (nss : List (List Int)) : D := .tup (nss.map rowD)
@[simp] theorem flat_int (i : Int) : flatD (.int i) = true := rfl
theorem flat_row (ns : List Int) : (ns.map D.int).all flatD = true := by rw [List.all_eq_true]; intro d hd; obtain ⟨i, _, rfl⟩ := List.mem_map.mp hd; rfl
theorem any_row (ns : List Int) (a : Int) : ((ns.map D.int).any fun y => eqF y (.int a)) = decide (a ∈ ns) := by
  rw [List.any_map]
  induction ns with
  | nil => simp
  | cons n ns ih =>
    rw [List.any_cons, ih]
    show ((n == a) || decide (a ∈ ns)) = decide (a ∈ n :: ns)
    by_cases e : n = a
    · rw [e]; simp
    · have e' : ¬ a = n := fun z => e z.symm
      simp [e, e']
theorem row_in {a : Int} {ns : List Int} {st : DSt} {Q : DK} (q : Q (.bl (decide (a ∈ ns))) st) : dInG false (.int a) (rowD ns) st Q := by
  unfold rowD
  simp only [e_in, e_seqT, e_onO]
  refine ⟨⟨rfl, flat_row ns⟩, ?_⟩
  rw [any_row]
  exact q
theorem iteT' {c : Bool} {A B : Prop} (h : c = true) (a : A) : if c = true then A else B := by rw [if_pos h]; exact a
theorem iteF' {c : Bool} {A B : Prop} (h : c = false) (b : B) : if c = true then A else B := by rw [h]; exact iteF b
theorem at_map {α β : Type} {f : α → β} {xs : List α} {i : Nat} {x : α} (h : xs[i]? = some x) : atI (xs.map f) (i : Int) = some (f x) := atI_nat (by rw [List.getElem?_map, h]; rfl)
def dec (nss : List (List Int)) (a b : Nat) : Bool := if a = b then !decide ((a : Int) ∈ nss.getD a []) else (decide ((b : Int) ∈ nss.getD a []) != decide ((a : Int) ∈ nss.getD b []))
theorem getD_at {nss : List (List Int)} {a : Nat} (h : a < nss.length) : nss[a]? = some (nss.getD a []) := by
  rw [List.getD_eq_getElem?_getD, List.getElem?_eq_getElem h]
  rfl
theorem rows_at {nss : List (List Int)} {a : Nat} (h : a < nss.length) : atI (nss.map rowD) (a : Int) = some (rowD (nss.getD a [])) := at_map (getD_at h)
theorem compL_gen {g : DTG} {te : DTE} {r : DEnv} {Q : List D → DSt → Prop} {st : DSt} {xs : List D} {α : Type} (f : α → D) (h : α → D) :
    ∀ (items : List α) (acc : List D), (∀ a ∈ items, ∀ Q' : DEnv → DSt → Prop, (∀ r2, Ev te r2 st (h a) → Q' r2 st) → g (f a) r st Q') → Q (acc ++ items.map h) st → compL ⟨xs, none⟩ g dtYes te r Q (items.map f) acc st
  | [], acc, _, q => by
    have q' : Q acc st := by simpa using q
    exact q'
  | a :: as, acc, hh, q => by
    show g (f a) r st _
    refine hh a List.mem_cons_self _ fun r2 e2 => ?_
    show te r2 st _
    refine e2 _ (compL_gen f h as _ (fun b hb => hh b (List.mem_cons_of_mem _ hb)) ?_)
    simpa using q
@[simp] theorem e_lc2 {f f1 : DTI} {g g1 : DTG} {tt tt1 : DTT} {te : DTE} {vs vs1 : List Nat} {fin : DK → List D → DSt → Prop} {r : DEnv} {st : DSt} {Q : DK} : dLc2G f g tt f1 g1 tt1 te vs vs1 fin r st Q = f r st fun I st1 => comp2 I g tt f1 g1 tt1 te (wipeD r vs) vs1 (fin Q) I.items [] st1 := rfl
structure Tb (n : Nat) (nss : List (List Int)) : Prop where
  len : nss.length = n
  asc : ∀ a : Nat, a < n → (nss.getD a []).Pairwise (· < ·)
  inr : ∀ a : Nat, a < n → ∀ x ∈ nss.getD a [], 0 ≤ x ∧ x < (n : Int)
  one : ∀ a b : Nat, a < n → b < n → dec nss a b = true
theorem Tb.row {n : Nat} {nss : List (List Int)} (t : Tb n nss) {ns : List Int} (h : ns ∈ nss) : ns.Pairwise (· < ·) ∧ ∀ x ∈ ns, 0 ≤ x ∧ x < (n : Int) := by
  obtain ⟨a, ha⟩ := List.mem_iff_getElem?.mp h
  have lt : a < n := by rw [← t.len]; exact (List.getElem?_eq_some_iff.mp ha).1
  have e : nss.getD a [] = ns := by rw [List.getD_eq_getElem?_getD, ha]; rfl
  rw [← e]
  exact ⟨t.asc a lt, t.inr a lt⟩
theorem asc_len {n : Nat} : ∀ {ns : List Int} {lo : Int}, ns.Pairwise (· < ·) → (∀ x ∈ ns, lo ≤ x ∧ x < (n : Int)) → (ns.length : Int) ≤ (n : Int) - lo ∨ ns = []
  | [], lo, _, _ => .inr rfl
  | a :: r, lo, h, hx => by
    have h1 := List.pairwise_cons.mp h
    have ha := hx a List.mem_cons_self
    rcases asc_len (lo := a + 1) h1.2 (fun x m => ⟨by have := h1.1 x m; omega, (hx x (List.mem_cons_of_mem _ m)).2⟩) with z | z
    · left; rw [List.length_cons]; omega
    · left; rw [z]; simp; omega
theorem Tb.few {n : Nat} {nss : List (List Int)} (t : Tb n nss) {ns : List Int} (h : ns ∈ nss) : ns.length ≤ n := by
  obtain ⟨a, b⟩ := t.row h
  rcases asc_len (lo := 0) a b with z | z
  · omega
  · rw [z]; simp
theorem all_end0 {ds : List D} {Q : DK} {st : DSt} (h : ∀ d ∈ ds, d = .bl true) (q : Q (.bl true) st) : finT (fun d st1 => dAllR (fun bs => bs.all id) [d] st1 Q) ds st := by
  have e : ds = (List.replicate ds.length true).map D.bl := by
    refine List.ext_getElem (by simp) fun i h1 h2 => ?_
    rw [h _ (List.getElem_mem h1)]
    simp
  rw [e]
  refine all_end (p := id) ?_
  rw [show (List.replicate ds.length true).all id = true by simp]
  exact q
def tabsD (ts : List (List (List Int))) : D := .tup (ts.map rowsD)
end DL
namespace DL
open PySem PySem.Spec PyProof.Rows L2 LamX PySem.W SL
def sortI (ns : List Int) : List Int := ns.mergeSort fun a b => decide (a ≤ b)
theorem sortI_perm (ns : List Int) : (sortI ns).Perm ns := List.mergeSort_perm _ _
theorem sortI_sorted (ns : List Int) : (sortI ns).Pairwise (· ≤ ·) := by
  have h := List.pairwise_mergeSort (le := fun a b : Int => decide (a ≤ b)) (fun a b c h1 h2 => by simp at h1 h2 ⊢; omega) (fun a b => by simp; omega) ns
  exact h.imp fun h => by simpa using h
theorem sorted_one : ∀ {xs ys : List Int}, xs.Perm ys → xs.Pairwise (· ≤ ·) → ys.Pairwise (· ≤ ·) → xs = ys
  | [], ys, p, _, _ => by rw [List.nil_perm.mp p]
  | x :: xs, [], p, _, _ => by have := p.length_eq; simp at this
  | x :: xs, y :: ys, p, h1, h2 => by
    have h1' := List.pairwise_cons.mp h1
    have h2' := List.pairwise_cons.mp h2
    have e : x = y := by
      rcases List.mem_cons.mp (p.mem_iff.mp List.mem_cons_self) with z | z
      · exact z
      · rcases List.mem_cons.mp (p.mem_iff.mpr (List.mem_cons_self (a := y) (l := ys))) with w | w
        · exact w.symm
        · have := h2'.1 x z
          have := h1'.1 y w
          omega
    subst e
    rw [sorted_one (List.Perm.cons_inv p) h1'.2 h2'.2]
theorem asc_one : ∀ {xs ys : List Int}, xs.Pairwise (· < ·) → ys.Pairwise (· < ·) → (∀ a, a ∈ xs ↔ a ∈ ys) → xs = ys
  | [], [], _, _, _ => rfl
  | [], y :: ys, _, _, h => by have := (h y).mpr List.mem_cons_self; cases this
  | x :: xs, [], _, _, h => by have := (h x).mp List.mem_cons_self; cases this
  | x :: xs, y :: ys, h1, h2, h => by
    have h1' := List.pairwise_cons.mp h1
    have h2' := List.pairwise_cons.mp h2
    have e : x = y := by
      rcases List.mem_cons.mp ((h x).mp List.mem_cons_self) with z | z
      · exact z
      · rcases List.mem_cons.mp ((h y).mpr List.mem_cons_self) with w | w
        · exact w.symm
        · have := h2'.1 x z
          have := h1'.1 y w
          omega
    subst e
    rw [asc_one h1'.2 h2'.2 fun a => ?_]
    constructor
    · intro ha
      rcases List.mem_cons.mp ((h a).mp (List.mem_cons_of_mem _ ha)) with z | z
      · have := h1'.1 a ha; omega
      · exact z
    · intro ha
      rcases List.mem_cons.mp ((h a).mpr (List.mem_cons_of_mem _ ha)) with z | z
      · have := h2'.1 a ha; omega
      · exact z
theorem sort_ev {fin : DK → List D → DSt → Prop} {x : D} {st : DSt} {ns : List Int} {Q : DK} (e : seqS st x = some (ns.map D.int)) (few : ns.length ≤ 100000) (q : fin Q ((sortI ns).map D.int) st) : dSortI fin [x] st Q := by
  unfold dSortI
  simp only [e_on1, e, e_onO, intsD_ints]
  refine ⟨few, fun out p s => ?_⟩
  rw [sorted_one (p.trans (sortI_perm ns).symm) s (sortI_sorted ns)]
  exact q
def R (n : Nat) : List Int := (List.range n).map fun i : Nat => (i : Int)
theorem R_mem {n : Nat} {x : Int} : x ∈ R n ↔ 0 ≤ x ∧ x < n := by
  unfold R
  rw [List.mem_map]
  constructor
  · rintro ⟨i, hi, rfl⟩
    have := List.mem_range.mp hi
    omega
  · rintro ⟨h0, h1⟩
    exact ⟨x.toNat, List.mem_range.mpr (by omega), by omega⟩
theorem R_nodup (n : Nat) : (R n).Nodup := by
  unfold R
  refine List.Pairwise.map _ (fun a b h => ?_) List.nodup_range
  omega
theorem R_length (n : Nat) : (R n).length = n := by unfold R; rw [List.length_map, List.length_range]
def pos (ns : List Int) (x : Int) : Nat := (ixOf x ns).getD 0
theorem pos_at {ns : List Int} {x : Int} (h : x ∈ ns) : ns[pos ns x]? = some x ∧ ixOf x ns = some (pos ns x) := by
  obtain ⟨j, e⟩ := ixOf_mem h
  unfold pos
  rw [e]
  exact ⟨(ixOf_spec e).1, rfl⟩
theorem nd_at {α : Type} {ns : List α} (nd : ns.Nodup) {i j : Nat} {x : α} (h1 : ns[i]? = some x) (h2 : ns[j]? = some x) : i = j := by
  obtain ⟨l1, q1⟩ := List.getElem?_eq_some_iff.mp h1
  obtain ⟨l2, q2⟩ := List.getElem?_eq_some_iff.mp h2
  exact (List.getElem_inj nd).mp (q1.trans q2.symm)
theorem mem_behind {ns : List Int} (nd : ns.Nodup) {x : Int} {i : Nat} : x ∈ ns.drop (i + 1) ↔ x ∈ ns ∧ i < pos ns x := by
  constructor
  · intro h
    have hx := List.mem_of_mem_drop h
    obtain ⟨j, hj⟩ := List.mem_iff_getElem?.mp h
    rw [List.getElem?_drop] at hj
    have := nd_at nd (pos_at hx).1 hj
    exact ⟨hx, by omega⟩
  · rintro ⟨hx, lt⟩
    refine List.mem_iff_getElem?.mpr ⟨pos ns x - (i + 1), ?_⟩
    rw [List.getElem?_drop, show i + 1 + (pos ns x - (i + 1)) = pos ns x by omega]
    exact (pos_at hx).1
theorem pos_inj {ns : List Int} {x y : Int} (hx : x ∈ ns) (hy : y ∈ ns) (e : pos ns x = pos ns y) : x = y := by
  have h1 := (pos_at hx).1
  rw [e, (pos_at hy).1] at h1
  exact (Option.some.inj h1).symm
def ordT (ns : List Int) : List (List Int) := (List.range ns.length).map fun k : Nat => sortI (ns.drop (pos ns (k : Int) + 1))
theorem ordT_length (ns : List Int) : (ordT ns).length = ns.length := by unfold ordT; rw [List.length_map, List.length_range]
theorem ordT_at {ns : List Int} {a : Nat} (h : a < ns.length) : (ordT ns).getD a [] = sortI (ns.drop (pos ns (a : Int) + 1)) := by
  unfold ordT
  rw [List.getD_eq_getElem?_getD, List.getElem?_map, List.getElem?_eq_getElem (by rw [List.length_range]; exact h), List.getElem_range]
  rfl
structure Ord (n : Nat) (ns : List Int) : Prop where
  perm : ns.Perm (R n)
theorem Ord.len {n : Nat} {ns : List Int} (o : Ord n ns) : ns.length = n := by rw [o.perm.length_eq, R_length]
theorem Ord.nd {n : Nat} {ns : List Int} (o : Ord n ns) : ns.Nodup := o.perm.nodup_iff.mpr (R_nodup n)
theorem Ord.mem {n : Nat} {ns : List Int} (o : Ord n ns) {x : Int} : x ∈ ns ↔ 0 ≤ x ∧ x < n := by rw [o.perm.mem_iff, R_mem]
theorem Ord.beats {n : Nat} {ns : List Int} (o : Ord n ns) {a : Nat} (h : a < n) {x : Int} : x ∈ (ordT ns).getD a [] ↔ (0 ≤ x ∧ x < n) ∧ pos ns a < pos ns x := by
  rw [ordT_at (by rw [o.len]; exact h), (sortI_perm _).mem_iff, mem_behind o.nd, o.mem]
theorem sort_asc {ns : List Int} (nd : ns.Nodup) : (sortI ns).Pairwise (· < ·) := by
  have h1 := sortI_sorted ns
  have h2 : (sortI ns).Nodup := (sortI_perm ns).nodup_iff.mpr nd
  have h3 := h1.and h2
  exact h3.imp fun h => by have := h.1; have := h.2; omega
theorem Ord.tb {n : Nat} {ns : List Int} (o : Ord n ns) : Tb n (ordT ns) := by
  refine ⟨by rw [ordT_length, o.len], fun a ha => ?_, fun a ha x hx => ?_, fun a b ha hb => ?_⟩
  · rw [ordT_at (by rw [o.len]; exact ha)]
    exact sort_asc (List.Nodup.sublist (List.drop_sublist _ _) o.nd)
  · exact ((o.beats ha).mp hx).1
  · unfold dec
    by_cases e : a = b
    · rw [if_pos e]
      have z : ¬ (a : Int) ∈ (ordT ns).getD a [] := fun h => by
        have := ((o.beats ha).mp h).2
        omega
      rw [decide_eq_false z]
      rfl
    · rw [if_neg e]
      have ma : (a : Int) ∈ ns := o.mem.mpr (by omega)
      have mb : (b : Int) ∈ ns := o.mem.mpr (by omega)
      have ne : pos ns a ≠ pos ns b := fun z => by
        have := pos_inj ma mb z
        omega
      rcases Nat.lt_or_gt_of_ne ne with z | z
      · have h1 : (b : Int) ∈ (ordT ns).getD a [] := (o.beats ha).mpr ⟨by omega, z⟩
        have h2 : ¬ (a : Int) ∈ (ordT ns).getD b [] := fun h => by have := ((o.beats hb).mp h).2; omega
        rw [decide_eq_true h1, decide_eq_false h2]
        rfl
      · have h1 : ¬ (b : Int) ∈ (ordT ns).getD a [] := fun h => by have := ((o.beats ha).mp h).2; omega
        have h2 : (a : Int) ∈ (ordT ns).getD b [] := (o.beats hb).mpr ⟨by omega, z⟩
        rw [decide_eq_false h1, decide_eq_true h2]
        rfl
theorem cutN (xs : List D) (k : Nat) : cutD xs (some (k : Int)) none = xs.drop k := by
  unfold cutD
  have z : HT.sIx xs.length 0 (some (k : Int)) = min k xs.length := HT.sIx_nat xs.length 0 k
  rw [z, HT.sIx_none]
  by_cases h : k ≤ xs.length
  · rw [Nat.min_eq_left h]
    exact List.take_of_length_le (by rw [List.length_drop]; omega)
  · rw [Nat.min_eq_right (by omega), List.drop_length, List.drop_eq_nil_of_le (by omega)]
    simp
end DL
namespace DL
open PySem PySem.Spec PyProof.Rows L2 LamX PySem.W SL
def Ring (t : List (List Int)) (a b c : Int) : Prop := 0 ≤ a ∧ a < t.length ∧ b ∈ t.getD a.toNat [] ∧ c ∈ t.getD b.toNat [] ∧ a ∈ t.getD c.toNat []
def noRing (t : List (List Int)) : Bool := (List.range t.length).all fun a => (t.getD a []).all fun b => (t.getD b.toNat []).all fun c => !decide ((a : Int) ∈ t.getD c.toNat [])
theorem noRing_iff {t : List (List Int)} : noRing t = true ↔ ∀ a b c, ¬ Ring t a b c := by
  unfold noRing
  simp only [List.all_eq_true, List.mem_range, Bool.not_eq_true', decide_eq_false_iff_not]
  constructor
  · rintro h a b c ⟨a0, a1, hb, hc, ha⟩
    refine h a.toNat (by omega) b hb c hc ?_
    rw [Int.toNat_of_nonneg a0]
    exact ha
  · intro h a la b hb c hc ha
    exact h a b c ⟨by omega, by omega, by simpa using hb, hc, ha⟩
def g_ring : DRs := fun ds st Q => ∃ (n : Nat) (ts : List (List (List Int))) (i : Nat) (t : List (List Int)), ds = [tabsD ts, .int i] ∧ ts[i]? = some t ∧ Tb n t ∧ n ≤ 60 ∧ (noRing t = true → Q .non st) ∧ ∀ a b c, Ring t a b c → Q (.tup [.int a, .int b, .int c]) st
theorem ar_ring (ds : List D) (st : DSt) (Q : DK) (h : g_ring ds st Q) : ds.length = 2 := by
  obtain ⟨_, _, _, _, rfl, _⟩ := h
  rfl
theorem Tb.at_ {n : Nat} {t : List (List Int)} (tb : Tb n t) {x : Int} (h0 : 0 ≤ x) (h1 : x < n) : atI (t.map rowD) x = some (rowD (t.getD x.toNat [])) := by
  have z := rows_at (nss := t) (a := x.toNat) (by rw [tb.len]; omega)
  rw [Int.toNat_of_nonneg h0] at z
  exact z
theorem Tb.mem {n : Nat} {t : List (List Int)} (tb : Tb n t) {x y : Int} (h0 : 0 ≤ x) (h1 : x < n) (h : y ∈ t.getD x.toNat []) : 0 ≤ y ∧ y < n := tb.inr x.toNat (by omega) y h
theorem sem_ring (ds : List D) (st : DSt) (Q : DK) (h : g_ring ds st Q) : F_ring_at { nx := fun _ st' => Rt st Q .non st', rt := Rt st Q } (startD 6 ds) st := by
  obtain ⟨n, ts, i, t, rfl, hi, tb, n60, q0, q1⟩ := h
  have st6 : startD 6 [tabsD ts, D.int (i : Nat)] = [some (.tup (ts.map rowsD)), some (.int i), none, none, none, none] := rfl
  have at_ : atI (ts.map rowsD) (i : Int) = some (rowsD t) := at_map hi
  simp only [F_ring_at, st6, e_var, e_C, e_op, e_neg, e_isN, e_notN, e_and, e_or, e_not, e_test, e_tAnd, e_tOr, e_tNot, e_tYes, e_if, e_aNil, e_aCons, e_tup, e_lst, e_lstN, e_len0, e_len1, e_len2, e_len3, e_len4, e_len5, e_cb, e_on1, e_on2, e_onI, e_onB, e_onO, e_onO0, e_onOO, e_I0, e_I, e_add, e_addT, e_addS, e_addL, e_addLR, e_addRL, e_addRR, e_mul, e_mulL, e_mulT, e_rev, e_revT, e_ix, e_eqI, e_eqS, e_eqB, e_neI, e_neS, e_neB, e_ltI, e_chain, e_len, e_abs, e_2I, e_tuple1, e_tuple2, e_tuple3, e_listT, e_listN, e_allR, e_seqT, e_seqK, e_seqL, e_isi, e_isB, e_notB, e_truth, e_next, e_seq, e_drop, e_ret, e_retN, e_ifS, e_set, e_asg, e_par, e_nm, e_gsN, e_gsC, e_gTpK, e_gTpL, e_sum, e_maxL, e_minL, e_maxDef, e_int, e_intB, e_aug, e_on3, e_par3, e_newK, e_getK, e_keyI, e_keyS, e_inK, e_ninK, e_putK, e_lenK, e_lstS, e_seqX, e_gTpT, e_oN, e_oS, e_sl, e_slT, e_slL, e_finT, e_finN, e_index, e_idxT, e_idxL, e_mIx, e_ixST, e_ixSL, e_mtL, e_w, e_w1, e_w2, e_wE, e_wZ, e_itK, e_itT, e_itL, e_itT2, e_itL2, e_lc, e_for, e_wipe0, e_wipe, e_okI, e_okR, e_gSb, List.getElem?_cons_zero, List.getElem?_cons_succ, List.set_cons_zero, List.set_cons_succ, at_]
  unfold rowsD
  simp only [e_var, e_C, e_op, e_neg, e_isN, e_notN, e_and, e_or, e_not, e_test, e_tAnd, e_tOr, e_tNot, e_tYes, e_if, e_aNil, e_aCons, e_tup, e_lst, e_lstN, e_len0, e_len1, e_len2, e_len3, e_len4, e_len5, e_cb, e_on1, e_on2, e_onI, e_onB, e_onO, e_onO0, e_onOO, e_I0, e_I, e_add, e_addT, e_addS, e_addL, e_addLR, e_addRL, e_addRR, e_mul, e_mulL, e_mulT, e_rev, e_revT, e_ix, e_eqI, e_eqS, e_eqB, e_neI, e_neS, e_neB, e_ltI, e_chain, e_len, e_abs, e_2I, e_tuple1, e_tuple2, e_tuple3, e_listT, e_listN, e_allR, e_seqT, e_seqK, e_seqL, e_isi, e_isB, e_notB, e_truth, e_next, e_seq, e_drop, e_ret, e_retN, e_ifS, e_set, e_asg, e_par, e_nm, e_gsN, e_gsC, e_gTpK, e_gTpL, e_sum, e_maxL, e_minL, e_maxDef, e_int, e_intB, e_aug, e_on3, e_par3, e_newK, e_getK, e_keyI, e_keyS, e_inK, e_ninK, e_putK, e_lenK, e_lstS, e_seqX, e_gTpT, e_oN, e_oS, e_sl, e_slT, e_slL, e_finT, e_finN, e_index, e_idxT, e_idxL, e_mIx, e_ixST, e_ixSL, e_mtL, e_w, e_w1, e_w2, e_wE, e_wZ, e_itK, e_itT, e_itL, e_itT2, e_itL2, e_lc, e_for, e_wipe0, e_wipe, e_okI, e_okR, e_gSb, List.getElem?_cons_zero, List.getElem?_cons_succ, List.set_cons_zero, List.set_cons_succ, List.length_map, tb.len, Int.toNat_natCast]
  refine ⟨⟨by omega, by omega⟩, ?_⟩
  refine for_inv (fun ds r st' => ∃ (k : Nat) (x3 x4 x5 : Option D), ds = (rgD 0 n).drop k ∧ r = [some (.tup (ts.map rowsD)), some (.int i), some (.tup (t.map rowD)), x3, x4, x5] ∧ st = st' ∧ ∀ a b c, a < (k : Int) → ¬ Ring t a b c) ?_ ?_ _ _ _ ⟨0, _, _, _, rfl, rfl, rfl, fun a b c lt h => by have := h.1; omega⟩
  · rintro d ds r st' N hN ⟨k, x3, x4, x5, e, rfl, rfl, no⟩
    obtain ⟨ek, lk, e2⟩ := drop_cons e.symm
    obtain ⟨lt, rfl⟩ := rgD_get ek
    have tr := tb.at_ (x := (0 : Int) + (k : Nat)) (by omega) (by omega)
    simp only [e_var, e_C, e_op, e_neg, e_isN, e_notN, e_and, e_or, e_not, e_test, e_tAnd, e_tOr, e_tNot, e_tYes, e_if, e_aNil, e_aCons, e_tup, e_lst, e_lstN, e_len0, e_len1, e_len2, e_len3, e_len4, e_len5, e_cb, e_on1, e_on2, e_onI, e_onB, e_onO, e_onO0, e_onOO, e_I0, e_I, e_add, e_addT, e_addS, e_addL, e_addLR, e_addRL, e_addRR, e_mul, e_mulL, e_mulT, e_rev, e_revT, e_ix, e_eqI, e_eqS, e_eqB, e_neI, e_neS, e_neB, e_ltI, e_chain, e_len, e_abs, e_2I, e_tuple1, e_tuple2, e_tuple3, e_listT, e_listN, e_allR, e_seqT, e_seqK, e_seqL, e_isi, e_isB, e_notB, e_truth, e_next, e_seq, e_drop, e_ret, e_retN, e_ifS, e_set, e_asg, e_par, e_nm, e_gsN, e_gsC, e_gTpK, e_gTpL, e_sum, e_maxL, e_minL, e_maxDef, e_int, e_intB, e_aug, e_on3, e_par3, e_newK, e_getK, e_keyI, e_keyS, e_inK, e_ninK, e_putK, e_lenK, e_lstS, e_seqX, e_gTpT, e_oN, e_oS, e_sl, e_slT, e_slL, e_finT, e_finN, e_index, e_idxT, e_idxL, e_mIx, e_ixST, e_ixSL, e_mtL, e_w, e_w1, e_w2, e_wE, e_wZ, e_itK, e_itT, e_itL, e_itT2, e_itL2, e_lc, e_for, e_wipe0, e_wipe, e_okI, e_okR, e_gSb, List.getElem?_cons_zero, List.getElem?_cons_succ, List.set_cons_zero, List.set_cons_succ, tr]
    unfold rowD
    simp only [e_var, e_C, e_op, e_neg, e_isN, e_notN, e_and, e_or, e_not, e_test, e_tAnd, e_tOr, e_tNot, e_tYes, e_if, e_aNil, e_aCons, e_tup, e_lst, e_lstN, e_len0, e_len1, e_len2, e_len3, e_len4, e_len5, e_cb, e_on1, e_on2, e_onI, e_onB, e_onO, e_onO0, e_onOO, e_I0, e_I, e_add, e_addT, e_addS, e_addL, e_addLR, e_addRL, e_addRR, e_mul, e_mulL, e_mulT, e_rev, e_revT, e_ix, e_eqI, e_eqS, e_eqB, e_neI, e_neS, e_neB, e_ltI, e_chain, e_len, e_abs, e_2I, e_tuple1, e_tuple2, e_tuple3, e_listT, e_listN, e_allR, e_seqT, e_seqK, e_seqL, e_isi, e_isB, e_notB, e_truth, e_next, e_seq, e_drop, e_ret, e_retN, e_ifS, e_set, e_asg, e_par, e_nm, e_gsN, e_gsC, e_gTpK, e_gTpL, e_sum, e_maxL, e_minL, e_maxDef, e_int, e_intB, e_aug, e_on3, e_par3, e_newK, e_getK, e_keyI, e_keyS, e_inK, e_ninK, e_putK, e_lenK, e_lstS, e_seqX, e_gTpT, e_oN, e_oS, e_sl, e_slT, e_slL, e_finT, e_finN, e_index, e_idxT, e_idxL, e_mIx, e_ixST, e_ixSL, e_mtL, e_w, e_w1, e_w2, e_wE, e_wZ, e_itK, e_itT, e_itL, e_itT2, e_itL2, e_lc, e_for, e_wipe0, e_wipe, e_okI, e_okR, e_gSb, List.getElem?_cons_zero, List.getElem?_cons_succ, List.set_cons_zero, List.set_cons_succ]
    refine for_inv (fun ds r st' => ∃ (m : List Int) (x4 x5 : Option D), ds = m.map D.int ∧ (∀ x ∈ m, x ∈ t.getD k []) ∧ r = [some (.tup (ts.map rowsD)), some (.int i), some (.tup (t.map rowD)), some (.int (0 + (k : Nat))), x4, x5] ∧ st = st' ∧ ∀ b c, b ∈ t.getD k [] → b ∉ m → ¬ Ring t k b c) ?_ ?_ _ _ _ ⟨_, _, _, rfl, fun x hx => by simpa using hx, rfl, rfl, fun b c hb nb => absurd (by simpa using hb) nb⟩
    · rintro d ds r st' N2 hN2 ⟨m, x4, x5, e, sub, rfl, rfl, no2⟩
      cases m with
      | nil => cases e
      | cons b m =>
        cases e
        have hb := sub b List.mem_cons_self
        have rb := tb.inr k lt b hb
        have trb := tb.at_ (x := b) rb.1 rb.2
        simp only [e_var, e_C, e_op, e_neg, e_isN, e_notN, e_and, e_or, e_not, e_test, e_tAnd, e_tOr, e_tNot, e_tYes, e_if, e_aNil, e_aCons, e_tup, e_lst, e_lstN, e_len0, e_len1, e_len2, e_len3, e_len4, e_len5, e_cb, e_on1, e_on2, e_onI, e_onB, e_onO, e_onO0, e_onOO, e_I0, e_I, e_add, e_addT, e_addS, e_addL, e_addLR, e_addRL, e_addRR, e_mul, e_mulL, e_mulT, e_rev, e_revT, e_ix, e_eqI, e_eqS, e_eqB, e_neI, e_neS, e_neB, e_ltI, e_chain, e_len, e_abs, e_2I, e_tuple1, e_tuple2, e_tuple3, e_listT, e_listN, e_allR, e_seqT, e_seqK, e_seqL, e_isi, e_isB, e_notB, e_truth, e_next, e_seq, e_drop, e_ret, e_retN, e_ifS, e_set, e_asg, e_par, e_nm, e_gsN, e_gsC, e_gTpK, e_gTpL, e_sum, e_maxL, e_minL, e_maxDef, e_int, e_intB, e_aug, e_on3, e_par3, e_newK, e_getK, e_keyI, e_keyS, e_inK, e_ninK, e_putK, e_lenK, e_lstS, e_seqX, e_gTpT, e_oN, e_oS, e_sl, e_slT, e_slL, e_finT, e_finN, e_index, e_idxT, e_idxL, e_mIx, e_ixST, e_ixSL, e_mtL, e_w, e_w1, e_w2, e_wE, e_wZ, e_itK, e_itT, e_itL, e_itT2, e_itL2, e_lc, e_for, e_wipe0, e_wipe, e_okI, e_okR, e_gSb, List.getElem?_cons_zero, List.getElem?_cons_succ, List.set_cons_zero, List.set_cons_succ, trb]
        unfold rowD
        simp only [e_var, e_C, e_op, e_neg, e_isN, e_notN, e_and, e_or, e_not, e_test, e_tAnd, e_tOr, e_tNot, e_tYes, e_if, e_aNil, e_aCons, e_tup, e_lst, e_lstN, e_len0, e_len1, e_len2, e_len3, e_len4, e_len5, e_cb, e_on1, e_on2, e_onI, e_onB, e_onO, e_onO0, e_onOO, e_I0, e_I, e_add, e_addT, e_addS, e_addL, e_addLR, e_addRL, e_addRR, e_mul, e_mulL, e_mulT, e_rev, e_revT, e_ix, e_eqI, e_eqS, e_eqB, e_neI, e_neS, e_neB, e_ltI, e_chain, e_len, e_abs, e_2I, e_tuple1, e_tuple2, e_tuple3, e_listT, e_listN, e_allR, e_seqT, e_seqK, e_seqL, e_isi, e_isB, e_notB, e_truth, e_next, e_seq, e_drop, e_ret, e_retN, e_ifS, e_set, e_asg, e_par, e_nm, e_gsN, e_gsC, e_gTpK, e_gTpL, e_sum, e_maxL, e_minL, e_maxDef, e_int, e_intB, e_aug, e_on3, e_par3, e_newK, e_getK, e_keyI, e_keyS, e_inK, e_ninK, e_putK, e_lenK, e_lstS, e_seqX, e_gTpT, e_oN, e_oS, e_sl, e_slT, e_slL, e_finT, e_finN, e_index, e_idxT, e_idxL, e_mIx, e_ixST, e_ixSL, e_mtL, e_w, e_w1, e_w2, e_wE, e_wZ, e_itK, e_itT, e_itL, e_itT2, e_itL2, e_lc, e_for, e_wipe0, e_wipe, e_okI, e_okR, e_gSb, List.getElem?_cons_zero, List.getElem?_cons_succ, List.set_cons_zero, List.set_cons_succ]
        refine for_inv (fun ds r st' => ∃ (m2 : List Int) (x5 : Option D), ds = m2.map D.int ∧ (∀ x ∈ m2, x ∈ t.getD b.toNat []) ∧ r = [some (.tup (ts.map rowsD)), some (.int i), some (.tup (t.map rowD)), some (.int (0 + (k : Nat))), some (.int b), x5] ∧ st = st' ∧ ∀ c, c ∈ t.getD b.toNat [] → c ∉ m2 → ¬ Ring t k b c) ?_ ?_ _ _ _ ⟨_, _, rfl, fun x hx => hx, rfl, rfl, fun c hc nc => absurd hc nc⟩
        · rintro d ds r st' N3 hN3 ⟨m2, x5, e, sub2, rfl, rfl, no3⟩
          cases m2 with
          | nil => cases e
          | cons c m2 =>
            cases e
            have hc := sub2 c List.mem_cons_self
            have rc := tb.mem rb.1 rb.2 hc
            have trc := tb.at_ (x := c) rc.1 rc.2
            simp only [e_var, e_C, e_op, e_neg, e_isN, e_notN, e_and, e_or, e_not, e_test, e_tAnd, e_tOr, e_tNot, e_tYes, e_if, e_aNil, e_aCons, e_tup, e_lst, e_lstN, e_len0, e_len1, e_len2, e_len3, e_len4, e_len5, e_cb, e_on1, e_on2, e_onI, e_onB, e_onO, e_onO0, e_onOO, e_I0, e_I, e_add, e_addT, e_addS, e_addL, e_addLR, e_addRL, e_addRR, e_mul, e_mulL, e_mulT, e_rev, e_revT, e_ix, e_eqI, e_eqS, e_eqB, e_neI, e_neS, e_neB, e_ltI, e_chain, e_len, e_abs, e_2I, e_tuple1, e_tuple2, e_tuple3, e_listT, e_listN, e_allR, e_seqT, e_seqK, e_seqL, e_isi, e_isB, e_notB, e_truth, e_next, e_seq, e_drop, e_ret, e_retN, e_ifS, e_set, e_asg, e_par, e_nm, e_gsN, e_gsC, e_gTpK, e_gTpL, e_sum, e_maxL, e_minL, e_maxDef, e_int, e_intB, e_aug, e_on3, e_par3, e_newK, e_getK, e_keyI, e_keyS, e_inK, e_ninK, e_putK, e_lenK, e_lstS, e_seqX, e_gTpT, e_oN, e_oS, e_sl, e_slT, e_slL, e_finT, e_finN, e_index, e_idxT, e_idxL, e_mIx, e_ixST, e_ixSL, e_mtL, e_w, e_w1, e_w2, e_wE, e_wZ, e_itK, e_itT, e_itL, e_itT2, e_itL2, e_lc, e_for, e_wipe0, e_wipe, e_okI, e_okR, e_gSb, List.getElem?_cons_zero, List.getElem?_cons_succ, List.set_cons_zero, List.set_cons_succ, trc]
            refine row_in ?_
            simp only [e_var, e_C, e_op, e_neg, e_isN, e_notN, e_and, e_or, e_not, e_test, e_tAnd, e_tOr, e_tNot, e_tYes, e_if, e_aNil, e_aCons, e_tup, e_lst, e_lstN, e_len0, e_len1, e_len2, e_len3, e_len4, e_len5, e_cb, e_on1, e_on2, e_onI, e_onB, e_onO, e_onO0, e_onOO, e_I0, e_I, e_add, e_addT, e_addS, e_addL, e_addLR, e_addRL, e_addRR, e_mul, e_mulL, e_mulT, e_rev, e_revT, e_ix, e_eqI, e_eqS, e_eqB, e_neI, e_neS, e_neB, e_ltI, e_chain, e_len, e_abs, e_2I, e_tuple1, e_tuple2, e_tuple3, e_listT, e_listN, e_allR, e_seqT, e_seqK, e_seqL, e_isi, e_isB, e_notB, e_truth, e_next, e_seq, e_drop, e_ret, e_retN, e_ifS, e_set, e_asg, e_par, e_nm, e_gsN, e_gsC, e_gTpK, e_gTpL, e_sum, e_maxL, e_minL, e_maxDef, e_int, e_intB, e_aug, e_on3, e_par3, e_newK, e_getK, e_keyI, e_keyS, e_inK, e_ninK, e_putK, e_lenK, e_lstS, e_seqX, e_gTpT, e_oN, e_oS, e_sl, e_slT, e_slL, e_finT, e_finN, e_index, e_idxT, e_idxL, e_mIx, e_ixST, e_ixSL, e_mtL, e_w, e_w1, e_w2, e_wE, e_wZ, e_itK, e_itT, e_itL, e_itT2, e_itL2, e_lc, e_for, e_wipe0, e_wipe, e_okI, e_okR, e_gSb, List.getElem?_cons_zero, List.getElem?_cons_succ, List.set_cons_zero, List.set_cons_succ]
            by_cases hr : (0 + (k : Nat) : Int) ∈ t.getD c.toNat []
            · refine iteT' (decide_eq_true hr) (.inl (q1 _ _ _ ⟨by omega, by rw [tb.len]; omega, ?_, hc, hr⟩))
              rw [Int.zero_add, Int.toNat_natCast]
              exact hb
            · refine iteF' (decide_eq_false hr) (hN3 _ _ (.inl ⟨m2, _, rfl, fun x hx => sub2 x (List.mem_cons_of_mem _ hx), rfl, rfl, fun c' hc' nc' => ?_⟩))
              by_cases z : c' = c
              · rintro ⟨_, _, _, _, h5⟩
                rw [z] at h5
                exact hr (by rw [Int.zero_add]; exact h5)
              · exact no3 c' hc' (fun h => by
                  rcases List.mem_cons.mp h with w | w
                  · exact z w
                  · exact nc' w)
        · rintro r st' ⟨m2, x5, e, sub2, rfl, rfl, no3⟩
          have e0 : m2 = [] := by cases m2 with | nil => rfl | cons _ _ => cases e
          subst e0
          simp only [e_var, e_C, e_op, e_neg, e_isN, e_notN, e_and, e_or, e_not, e_test, e_tAnd, e_tOr, e_tNot, e_tYes, e_if, e_aNil, e_aCons, e_tup, e_lst, e_lstN, e_len0, e_len1, e_len2, e_len3, e_len4, e_len5, e_cb, e_on1, e_on2, e_onI, e_onB, e_onO, e_onO0, e_onOO, e_I0, e_I, e_add, e_addT, e_addS, e_addL, e_addLR, e_addRL, e_addRR, e_mul, e_mulL, e_mulT, e_rev, e_revT, e_ix, e_eqI, e_eqS, e_eqB, e_neI, e_neS, e_neB, e_ltI, e_chain, e_len, e_abs, e_2I, e_tuple1, e_tuple2, e_tuple3, e_listT, e_listN, e_allR, e_seqT, e_seqK, e_seqL, e_isi, e_isB, e_notB, e_truth, e_next, e_seq, e_drop, e_ret, e_retN, e_ifS, e_set, e_asg, e_par, e_nm, e_gsN, e_gsC, e_gTpK, e_gTpL, e_sum, e_maxL, e_minL, e_maxDef, e_int, e_intB, e_aug, e_on3, e_par3, e_newK, e_getK, e_keyI, e_keyS, e_inK, e_ninK, e_putK, e_lenK, e_lstS, e_seqX, e_gTpT, e_oN, e_oS, e_sl, e_slT, e_slL, e_finT, e_finN, e_index, e_idxT, e_idxL, e_mIx, e_ixST, e_ixSL, e_mtL, e_w, e_w1, e_w2, e_wE, e_wZ, e_itK, e_itT, e_itL, e_itT2, e_itL2, e_lc, e_for, e_wipe0, e_wipe, e_okI, e_okR, e_gSb, List.getElem?_cons_zero, List.getElem?_cons_succ, List.set_cons_zero, List.set_cons_succ]
          refine hN2 _ _ (.inl ⟨m, _, _, rfl, fun x hx => sub x (List.mem_cons_of_mem _ hx), rfl, rfl, fun b' c hb' nb' => ?_⟩)
          by_cases z : b' = b
          · intro h
            have h4 := h.2.2.2.1
            rw [z] at h h4
            exact no3 c h4 (by simp) h
          · exact no2 b' c hb' (fun h => by
              rcases List.mem_cons.mp h with w | w
              · exact z w
              · exact nb' w)
    · rintro r st' ⟨m, x4, x5, e, sub, rfl, rfl, no2⟩
      have e0 : m = [] := by cases m with | nil => rfl | cons _ _ => cases e
      subst e0
      simp only [e_var, e_C, e_op, e_neg, e_isN, e_notN, e_and, e_or, e_not, e_test, e_tAnd, e_tOr, e_tNot, e_tYes, e_if, e_aNil, e_aCons, e_tup, e_lst, e_lstN, e_len0, e_len1, e_len2, e_len3, e_len4, e_len5, e_cb, e_on1, e_on2, e_onI, e_onB, e_onO, e_onO0, e_onOO, e_I0, e_I, e_add, e_addT, e_addS, e_addL, e_addLR, e_addRL, e_addRR, e_mul, e_mulL, e_mulT, e_rev, e_revT, e_ix, e_eqI, e_eqS, e_eqB, e_neI, e_neS, e_neB, e_ltI, e_chain, e_len, e_abs, e_2I, e_tuple1, e_tuple2, e_tuple3, e_listT, e_listN, e_allR, e_seqT, e_seqK, e_seqL, e_isi, e_isB, e_notB, e_truth, e_next, e_seq, e_drop, e_ret, e_retN, e_ifS, e_set, e_asg, e_par, e_nm, e_gsN, e_gsC, e_gTpK, e_gTpL, e_sum, e_maxL, e_minL, e_maxDef, e_int, e_intB, e_aug, e_on3, e_par3, e_newK, e_getK, e_keyI, e_keyS, e_inK, e_ninK, e_putK, e_lenK, e_lstS, e_seqX, e_gTpT, e_oN, e_oS, e_sl, e_slT, e_slL, e_finT, e_finN, e_index, e_idxT, e_idxL, e_mIx, e_ixST, e_ixSL, e_mtL, e_w, e_w1, e_w2, e_wE, e_wZ, e_itK, e_itT, e_itL, e_itT2, e_itL2, e_lc, e_for, e_wipe0, e_wipe, e_okI, e_okR, e_gSb, List.getElem?_cons_zero, List.getElem?_cons_succ, List.set_cons_zero, List.set_cons_succ]
      refine hN _ _ (.inl ⟨k + 1, _, _, _, e2.symm, rfl, rfl, fun a b c la h => ?_⟩)
      by_cases z : a = k
      · subst z
        have h3 := h.2.2.1
        rw [Int.toNat_natCast] at h3
        exact no2 b c h3 (by simp) h
      · exact no a b c (by omega) h
  · rintro r st' ⟨k, x3, x4, x5, e, rfl, rfl, no⟩
    have lk : n ≤ k := by
      have := List.drop_eq_nil_iff.mp e.symm
      rw [rgD_length] at this
      exact this
    simp only [e_var, e_C, e_op, e_neg, e_isN, e_notN, e_and, e_or, e_not, e_test, e_tAnd, e_tOr, e_tNot, e_tYes, e_if, e_aNil, e_aCons, e_tup, e_lst, e_lstN, e_len0, e_len1, e_len2, e_len3, e_len4, e_len5, e_cb, e_on1, e_on2, e_onI, e_onB, e_onO, e_onO0, e_onOO, e_I0, e_I, e_add, e_addT, e_addS, e_addL, e_addLR, e_addRL, e_addRR, e_mul, e_mulL, e_mulT, e_rev, e_revT, e_ix, e_eqI, e_eqS, e_eqB, e_neI, e_neS, e_neB, e_ltI, e_chain, e_len, e_abs, e_2I, e_tuple1, e_tuple2, e_tuple3, e_listT, e_listN, e_allR, e_seqT, e_seqK, e_seqL, e_isi, e_isB, e_notB, e_truth, e_next, e_seq, e_drop, e_ret, e_retN, e_ifS, e_set, e_asg, e_par, e_nm, e_gsN, e_gsC, e_gTpK, e_gTpL, e_sum, e_maxL, e_minL, e_maxDef, e_int, e_intB, e_aug, e_on3, e_par3, e_newK, e_getK, e_keyI, e_keyS, e_inK, e_ninK, e_putK, e_lenK, e_lstS, e_seqX, e_gTpT, e_oN, e_oS, e_sl, e_slT, e_slL, e_finT, e_finN, e_index, e_idxT, e_idxL, e_mIx, e_ixST, e_ixSL, e_mtL, e_w, e_w1, e_w2, e_wE, e_wZ, e_itK, e_itT, e_itL, e_itT2, e_itL2, e_lc, e_for, e_wipe0, e_wipe, e_okI, e_okR, e_gSb, List.getElem?_cons_zero, List.getElem?_cons_succ, List.set_cons_zero, List.set_cons_succ]
    refine .inl (q0 (noRing_iff.mpr fun a b c h => no a b c ?_ h))
    have := h.2.1
    rw [tb.len] at this
    omega
theorem Ord.noRing {n : Nat} {ns : List Int} (o : Ord n ns) : DL.noRing (ordT ns) = true := by
  refine noRing_iff.mpr fun a b c h => ?_
  obtain ⟨a0, a1, hb, hc, ha⟩ := h
  rw [ordT_length, o.len] at a1
  have b1 := (o.beats (a := a.toNat) (by omega)).mp hb
  have c1 := (o.beats (a := b.toNat) (by omega)).mp hc
  have d1 := (o.beats (a := c.toNat) (by omega)).mp ha
  rw [Int.toNat_of_nonneg a0] at b1
  rw [Int.toNat_of_nonneg b1.1.1] at c1
  rw [Int.toNat_of_nonneg c1.1.1] at d1
  omega
end DL
namespace DL
open PySem PySem.Spec PyProof.Rows L2 LamX PySem.W SL
def ixP (ps : List (List Int)) (s : Int) (k : Nat) : Nat := pos (ps.getD k []) s
def Far (ps : List (List Int)) (s : Int) (a b : Nat) : Prop := ixP ps s b < ixP ps s a ∨ (ixP ps s a = ixP ps s b ∧ a < b)
theorem line_ord {n : Nat} {b : Int} (n0 : 0 < n) : Ord n (lineI n b) := by
  refine ⟨(List.perm_ext_iff_of_nodup ?_ (R_nodup n)).mpr fun x => ?_⟩
  · unfold lineI
    refine List.Pairwise.map _ (fun (i : Nat) (j : Nat) (h : i < n ∧ j < n ∧ i ≠ j) => ?_) (List.Pairwise.imp_of_mem (fun {i j} hi hj h => (⟨List.mem_range.mp hi, List.mem_range.mp hj, h⟩ : i < n ∧ j < n ∧ i ≠ j)) List.nodup_range)
    intro e
    have z : ((b + (i : Int)) - (b + (j : Int))) % (n : Int) = 0 := Int.emod_eq_emod_iff_emod_sub_eq_zero.mp e
    have z2 := Int.dvd_of_emod_eq_zero z
    obtain ⟨c, hc⟩ := z2
    have hij : (i : Int) - (j : Int) = (n : Int) * c := by omega
    have c0 : c = 0 := by
      rcases Int.lt_trichotomy c 0 with w | w | w
      · have : (n : Int) * c ≤ (n : Int) * (-1) := Int.mul_le_mul_of_nonneg_left (by omega) (by omega)
        omega
      · exact w
      · have : (n : Int) * 1 ≤ (n : Int) * c := Int.mul_le_mul_of_nonneg_left (by omega) (by omega)
        omega
    rw [c0] at hij
    omega
  · rw [R_mem]
    unfold lineI
    rw [List.mem_map]
    constructor
    · rintro ⟨i, _, rfl⟩
      exact ⟨Int.emod_nonneg _ (by omega), Int.emod_lt_of_pos _ (by omega)⟩
    · rintro ⟨h0, h1⟩
      have m0 := Int.emod_nonneg (x - b) (b := (n : Int)) (by omega)
      have m1 := Int.emod_lt_of_pos (x - b) (b := (n : Int)) (by omega)
      refine ⟨((x - b) % (n : Int)).toNat, List.mem_range.mpr (by omega), ?_⟩
      rw [Int.toNat_of_nonneg m0, Int.add_emod_emod]
      rw [show b + (x - b) = x by omega]
      exact Int.emod_eq_of_lt h0 h1
def g_probe : DRs := fun ds st Q => ∃ (p n k : Nat), ds = [.ref p, .int n] ∧ 0 < n ∧ n ≤ 64 ∧ Pot (k + n + 2) p st ∧ ∀ (ns : List Int) (o : O), Ord n ns → PotO k o → Q (rowD ns) (st.set p o)
theorem ar_probe (ds : List D) (st : DSt) (Q : DK) (h : g_probe ds st Q) : ds.length = 2 := by
  obtain ⟨_, _, _, rfl, _⟩ := h
  rfl
theorem rg_ints (n : Nat) : rgD 0 n = (R n).map D.int := by
  rw [rgD0]
  unfold R
  rw [List.map_map]
  rfl
theorem sem_probe (ds : List D) (st : DSt) (Q : DK) (h : g_probe ds st Q) : F__law_probe g_take g_mixed g_line { nx := fun _ st' => Rt st Q .non st', rt := Rt st Q } (startD 2 ds) st := by
  obtain ⟨p, n, k, rfl, n0, n1, pot, q⟩ := h
  have st2 : startD 2 [D.ref p, D.int (n : Nat)] = [some (.ref p), some (.int n)] := rfl
  have lt := pot.lt
  simp only [F__law_probe, st2, e_var, e_C, e_op, e_neg, e_isN, e_notN, e_and, e_or, e_not, e_test, e_tAnd, e_tOr, e_tNot, e_tYes, e_if, e_aNil, e_aCons, e_tup, e_lst, e_lstN, e_len0, e_len1, e_len2, e_len3, e_len4, e_len5, e_cb, e_on1, e_on2, e_onI, e_onB, e_onO, e_onO0, e_onOO, e_I0, e_I, e_add, e_addT, e_addS, e_addL, e_addLR, e_addRL, e_addRR, e_mul, e_mulL, e_mulT, e_rev, e_revT, e_ix, e_eqI, e_eqS, e_eqB, e_neI, e_neS, e_neB, e_ltI, e_chain, e_len, e_abs, e_2I, e_tuple1, e_tuple2, e_tuple3, e_listT, e_listN, e_allR, e_seqT, e_seqK, e_seqL, e_isi, e_isB, e_notB, e_truth, e_next, e_seq, e_drop, e_ret, e_retN, e_ifS, e_set, e_asg, e_par, e_nm, e_gsN, e_gsC, e_gTpK, e_gTpL, e_sum, e_maxL, e_minL, e_maxDef, e_int, e_intB, e_aug, e_on3, e_par3, e_newK, e_getK, e_keyI, e_keyS, e_inK, e_ninK, e_putK, e_lenK, e_lstS, e_seqX, e_gTpT, e_oN, e_oS, e_sl, e_slT, e_slL, e_finT, e_finN, e_index, e_idxT, e_idxL, e_mIx, e_ixST, e_ixSL, e_mtL, e_w, e_w1, e_w2, e_wE, e_wZ, e_itK, e_itT, e_itL, e_itT2, e_itL2, e_lc, e_for, e_wipe0, e_wipe, e_okI, e_okR, e_gSb, List.getElem?_cons_zero, List.getElem?_cons_succ, List.set_cons_zero, List.set_cons_succ]
  refine ⟨p, 3, k + n + 1, rfl, pot, by decide, by decide, fun r o r0 r1 po => ?_⟩
  simp only [e_var, e_C, e_op, e_neg, e_isN, e_notN, e_and, e_or, e_not, e_test, e_tAnd, e_tOr, e_tNot, e_tYes, e_if, e_aNil, e_aCons, e_tup, e_lst, e_lstN, e_len0, e_len1, e_len2, e_len3, e_len4, e_len5, e_cb, e_on1, e_on2, e_onI, e_onB, e_onO, e_onO0, e_onOO, e_I0, e_I, e_add, e_addT, e_addS, e_addL, e_addLR, e_addRL, e_addRR, e_mul, e_mulL, e_mulT, e_rev, e_revT, e_ix, e_eqI, e_eqS, e_eqB, e_neI, e_neS, e_neB, e_ltI, e_chain, e_len, e_abs, e_2I, e_tuple1, e_tuple2, e_tuple3, e_listT, e_listN, e_allR, e_seqT, e_seqK, e_seqL, e_isi, e_isB, e_notB, e_truth, e_next, e_seq, e_drop, e_ret, e_retN, e_ifS, e_set, e_asg, e_par, e_nm, e_gsN, e_gsC, e_gTpK, e_gTpL, e_sum, e_maxL, e_minL, e_maxDef, e_int, e_intB, e_aug, e_on3, e_par3, e_newK, e_getK, e_keyI, e_keyS, e_inK, e_ninK, e_putK, e_lenK, e_lstS, e_seqX, e_gTpT, e_oN, e_oS, e_sl, e_slT, e_slL, e_finT, e_finN, e_index, e_idxT, e_idxL, e_mIx, e_ixST, e_ixSL, e_mtL, e_w, e_w1, e_w2, e_wE, e_wZ, e_itK, e_itT, e_itL, e_itT2, e_itL2, e_lc, e_for, e_wipe0, e_wipe, e_okI, e_okR, e_gSb, List.getElem?_cons_zero, List.getElem?_cons_succ, List.set_cons_zero, List.set_cons_succ]
  by_cases e : r = 0
  · refine iteT' (decide_eq_true e) ⟨p, n, k + n, rfl, Pot.set lt po, by omega, by omega, fun r2 o2 _ _ po2 => ?_⟩
    rw [List.set_set]
    exact ⟨n, r2, rfl, n0, by omega, .inl (q _ _ (line_ord n0) (po2.less (by omega)))⟩
  · refine iteF' (decide_eq_false e) ?_
    unfold dLRg1
    simp only [e_var, e_C, e_op, e_neg, e_isN, e_notN, e_and, e_or, e_not, e_test, e_tAnd, e_tOr, e_tNot, e_tYes, e_if, e_aNil, e_aCons, e_tup, e_lst, e_lstN, e_len0, e_len1, e_len2, e_len3, e_len4, e_len5, e_cb, e_on1, e_on2, e_onI, e_onB, e_onO, e_onO0, e_onOO, e_I0, e_I, e_add, e_addT, e_addS, e_addL, e_addLR, e_addRL, e_addRR, e_mul, e_mulL, e_mulT, e_rev, e_revT, e_ix, e_eqI, e_eqS, e_eqB, e_neI, e_neS, e_neB, e_ltI, e_chain, e_len, e_abs, e_2I, e_tuple1, e_tuple2, e_tuple3, e_listT, e_listN, e_allR, e_seqT, e_seqK, e_seqL, e_isi, e_isB, e_notB, e_truth, e_next, e_seq, e_drop, e_ret, e_retN, e_ifS, e_set, e_asg, e_par, e_nm, e_gsN, e_gsC, e_gTpK, e_gTpL, e_sum, e_maxL, e_minL, e_maxDef, e_int, e_intB, e_aug, e_on3, e_par3, e_newK, e_getK, e_keyI, e_keyS, e_inK, e_ninK, e_putK, e_lenK, e_lstS, e_seqX, e_gTpT, e_oN, e_oS, e_sl, e_slT, e_slL, e_finT, e_finN, e_index, e_idxT, e_idxL, e_mIx, e_ixST, e_ixSL, e_mtL, e_w, e_w1, e_w2, e_wE, e_wZ, e_itK, e_itT, e_itL, e_itT2, e_itL2, e_lc, e_for, e_wipe0, e_wipe, e_okI, e_okR, e_gSb, List.getElem?_cons_zero, List.getElem?_cons_succ, List.set_cons_zero, List.set_cons_succ, Int.toNat_natCast]
    refine ⟨RgOk.of_le (by decide) (by omega) (by decide) (by omega), p, _, rgD 0 n, k, rfl, rfl, fun z => (by cases z), by rw [rgD_length]; omega, fun d hd => ?_, by rw [rgD_length]; exact (Pot.set lt po).less (by omega), fun ys o2 pm po2 => ?_⟩
    · obtain ⟨i, li, rfl⟩ := rgD_mem hd
      exact (sm_int (by omega) (by omega)).mono (by decide) (by decide)
    · rw [List.set_set]
      simp only [e_var, e_C, e_op, e_neg, e_isN, e_notN, e_and, e_or, e_not, e_test, e_tAnd, e_tOr, e_tNot, e_tYes, e_if, e_aNil, e_aCons, e_tup, e_lst, e_lstN, e_len0, e_len1, e_len2, e_len3, e_len4, e_len5, e_cb, e_on1, e_on2, e_onI, e_onB, e_onO, e_onO0, e_onOO, e_I0, e_I, e_add, e_addT, e_addS, e_addL, e_addLR, e_addRL, e_addRR, e_mul, e_mulL, e_mulT, e_rev, e_revT, e_ix, e_eqI, e_eqS, e_eqB, e_neI, e_neS, e_neB, e_ltI, e_chain, e_len, e_abs, e_2I, e_tuple1, e_tuple2, e_tuple3, e_listT, e_listN, e_allR, e_seqT, e_seqK, e_seqL, e_isi, e_isB, e_notB, e_truth, e_next, e_seq, e_drop, e_ret, e_retN, e_ifS, e_set, e_asg, e_par, e_nm, e_gsN, e_gsC, e_gTpK, e_gTpL, e_sum, e_maxL, e_minL, e_maxDef, e_int, e_intB, e_aug, e_on3, e_par3, e_newK, e_getK, e_keyI, e_keyS, e_inK, e_ninK, e_putK, e_lenK, e_lstS, e_seqX, e_gTpT, e_oN, e_oS, e_sl, e_slT, e_slL, e_finT, e_finN, e_index, e_idxT, e_idxL, e_mIx, e_ixST, e_ixSL, e_mtL, e_w, e_w1, e_w2, e_wE, e_wZ, e_itK, e_itT, e_itL, e_itT2, e_itL2, e_lc, e_for, e_wipe0, e_wipe, e_okI, e_okR, e_gSb, List.getElem?_cons_zero, List.getElem?_cons_succ, List.set_cons_zero, List.set_cons_succ]
      rw [rg_ints] at pm
      obtain ⟨ns, rfl, pn⟩ : ∃ ns : List Int, ys = ns.map D.int ∧ ns.Perm (R n) := by
        have all : ∀ (xs : List Int) (ys : List D), ys.Perm (xs.map D.int) → ∃ ns : List Int, ys = ns.map D.int ∧ ns.Perm xs := by
          intro xs ys pm
          have z : ∀ y ∈ ys, ∃ i : Int, y = .int i := fun y hy => by
            obtain ⟨i, _, rfl⟩ := List.mem_map.mp (pm.mem_iff.mp hy)
            exact ⟨i, rfl⟩
          refine ⟨ys.map fun d => match d with | .int i => i | _ => 0, ?_, ?_⟩
          · rw [List.map_map]
            refine (List.map_id ys).symm.trans (List.map_congr_left fun y hy => ?_)
            obtain ⟨i, rfl⟩ := z y hy
            rfl
          · have w := pm.map (fun d : D => match d with | .int i => i | _ => 0)
            rw [List.map_map] at w
            rw [show ((fun d : D => match d with | .int i => i | _ => 0) ∘ D.int) = id from rfl, List.map_id] at w
            exact w
        exact all _ _ pm
      exact .inl (q _ _ ⟨pn⟩ po2)
end DL
namespace DL
open PySem PySem.Spec PyProof.Rows L2 LamX PySem.W SL
def Beats (t : List (List Int)) (a b : Nat) : Prop := (b : Int) ∈ t.getD a []
theorem Tb.dec2 {n : Nat} {t : List (List Int)} (tb : Tb n t) {a b : Nat} (ha : a < n) (hb : b < n) (ne : a ≠ b) : Beats t a b ↔ ¬ Beats t b a := by
  have z := tb.one a b ha hb
  unfold dec at z
  rw [if_neg ne] at z
  unfold Beats
  by_cases h1 : (b : Int) ∈ t.getD a []
  · by_cases h2 : (a : Int) ∈ t.getD b []
    · rw [decide_eq_true h1, decide_eq_true h2] at z; cases z
    · exact ⟨fun _ => h2, fun _ => h1⟩
  · by_cases h2 : (a : Int) ∈ t.getD b []
    · exact ⟨fun w => absurd w h1, fun w => absurd h2 w⟩
    · rw [decide_eq_false h1, decide_eq_false h2] at z; cases z
theorem Tb.irr {n : Nat} {t : List (List Int)} (tb : Tb n t) {a : Nat} (ha : a < n) : ¬ Beats t a a := by
  have z := tb.one a a ha ha
  unfold dec at z
  rw [if_pos rfl] at z
  unfold Beats
  simpa using z
theorem Tb.trans {n : Nat} {t : List (List Int)} (tb : Tb n t) (no : noRing t = true) {a b c : Nat} (ha : a < n) (hb : b < n) (hc : c < n) (h1 : Beats t a b) (h2 : Beats t b c) : Beats t a c := by
  by_cases e : a = c
  · subst e
    have ne : a ≠ b := fun z => by subst z; exact tb.irr ha h1
    exact absurd h2 ((tb.dec2 ha hb ne).mp h1)
  · refine (tb.dec2 ha hc e).mpr fun h3 => noRing_iff.mp no a b c ⟨by omega, by rw [tb.len]; omega, ?_, ?_, ?_⟩
    · rw [Int.toNat_natCast]; exact h1
    · rw [Int.toNat_natCast]; exact h2
    · rw [Int.toNat_natCast]; exact h3
theorem sub_len {xs ys : List Int} (hx : xs.Nodup) (h : ∀ x ∈ xs, x ∈ ys) : xs.length ≤ ys.length := by
  induction xs generalizing ys with
  | nil => simp
  | cons a r ih =>
    have ha := h a List.mem_cons_self
    have z := ih (ys := ys.erase a) (List.nodup_cons.mp hx).2 fun x hx' => by
      have ne : x ≠ a := fun e => (List.nodup_cons.mp hx).1 (e ▸ hx')
      exact (List.mem_erase_of_ne ne).mpr (h x (List.mem_cons_of_mem _ hx'))
    rw [List.length_erase_of_mem ha] at z
    have := List.length_pos_of_mem ha
    rw [List.length_cons]
    omega
theorem asc_nodup {xs : List Int} (h : xs.Pairwise (· < ·)) : xs.Nodup := h.imp fun h => by omega
theorem Tb.more {n : Nat} {t : List (List Int)} (tb : Tb n t) (no : noRing t = true) {a b : Nat} (ha : a < n) (hb : b < n) (h : Beats t a b) : (t.getD b []).length < (t.getD a []).length := by
  have nb : (b : Int) ∉ t.getD b [] := tb.irr hb
  have z := sub_len (xs := (b : Int) :: t.getD b []) (ys := t.getD a []) (List.nodup_cons.mpr ⟨nb, asc_nodup (tb.asc b hb)⟩) fun x hx => by
    rcases List.mem_cons.mp hx with e | e
    · rw [e]; exact h
    · have r := tb.inr b hb x e
      have w := tb.trans no ha hb (c := x.toNat) (by omega) h (by unfold Beats; rw [Int.toNat_of_nonneg r.1]; exact e)
      unfold Beats at w
      rw [Int.toNat_of_nonneg r.1] at w
      exact w
  rw [List.length_cons] at z
  omega
def ordN (t : List (List Int)) : List Nat := (List.range t.length).mergeSort fun a b => decide (-((t.getD a []).length : Int) ≤ -((t.getD b []).length : Int))
def ordOf (t : List (List Int)) : List Int := (ordN t).map fun i : Nat => (i : Int)
theorem ordOf_ord {n : Nat} {t : List (List Int)} (l : t.length = n) : Ord n (ordOf t) := by
  refine ⟨?_⟩
  unfold ordOf R
  rw [← l]
  exact (List.mergeSort_perm _ _).map _
theorem ordOf_pos {n : Nat} {t : List (List Int)} (tb : Tb n t) (no : noRing t = true) {a b : Nat} (ha : a < n) (hb : b < n) (ne : a ≠ b) : pos (ordOf t) a < pos (ordOf t) b ↔ Beats t a b := by
  have o := ordOf_ord tb.len
  have ma : (a : Int) ∈ ordOf t := o.mem.mpr (by omega)
  have mb : (b : Int) ∈ ordOf t := o.mem.mpr (by omega)
  have pw : (ordN t).Pairwise fun a b => decide (-((t.getD a []).length : Int) ≤ -((t.getD b []).length : Int)) = true := by
    refine List.pairwise_mergeSort (fun a b c h1 h2 => ?_) (fun a b => ?_) _
    · simp only [decide_eq_true_eq] at h1 h2 ⊢
      omega
    · simp only [Bool.or_eq_true, decide_eq_true_eq]
      omega
  have up : ∀ x y : Nat, (x : Int) ∈ ordOf t → (y : Int) ∈ ordOf t → pos (ordOf t) x < pos (ordOf t) y → (t.getD y []).length ≤ (t.getD x []).length := by
    intro x y hx hy lt
    have px := (pos_at hx).1
    have py := (pos_at hy).1
    unfold ordOf at px py
    rw [List.getElem?_map] at px py
    cases ex : (ordN t)[pos (ordOf t) x]? with
    | none => unfold ordOf at ex; rw [ex] at px; cases px
    | some u =>
      cases ey : (ordN t)[pos (ordOf t) y]? with
      | none => unfold ordOf at ey; rw [ey] at py; cases py
      | some v =>
        have ex' := ex
        have ey' := ey
        unfold ordOf at ex ey
        rw [ex] at px
        rw [ey] at py
        have e1 : u = x := by
          have h : (u : Int) = x := Option.some.inj px
          omega
        have e2 : v = y := by
          have h : (v : Int) = y := Option.some.inj py
          omega
        subst e1
        subst e2
        obtain ⟨l1, q1⟩ := List.getElem?_eq_some_iff.mp ex'
        obtain ⟨l2, q2⟩ := List.getElem?_eq_some_iff.mp ey'
        have z := List.pairwise_iff_getElem.mp pw _ _ l1 l2 lt
        rw [q1, q2] at z
        simp only [decide_eq_true_eq] at z
        omega
  constructor
  · intro lt
    have z := up a b ma mb lt
    refine (tb.dec2 ha hb ne).mpr fun h => ?_
    have := tb.more no hb ha h
    omega
  · intro h
    have m := tb.more no ha hb h
    rcases Nat.lt_trichotomy (pos (ordOf t) a) (pos (ordOf t) b) with z | z | z
    · exact z
    · have := pos_inj ma mb z
      omega
    · have := up b a mb ma z
      omega
theorem Tb.ordT {n : Nat} {t : List (List Int)} (tb : Tb n t) (no : noRing t = true) : t = DL.ordT (ordOf t) := by
  have o := ordOf_ord tb.len
  refine List.ext_getElem (by rw [ordT_length, o.len, tb.len]) fun a h1 h2 => ?_
  have ha : a < n := by rw [← tb.len]; exact h1
  have e1 : t[a] = t.getD a [] := by rw [List.getD_eq_getElem?_getD, List.getElem?_eq_getElem h1]; rfl
  have e2 : (DL.ordT (ordOf t))[a] = (DL.ordT (ordOf t)).getD a [] := by rw [List.getD_eq_getElem?_getD, List.getElem?_eq_getElem h2]; rfl
  rw [e1, e2]
  refine asc_one (tb.asc a ha) (o.tb.asc a ha) fun x => ?_
  rw [o.beats ha]
  constructor
  · intro hx
    have r := tb.inr a ha x hx
    have e : ((x.toNat : Nat) : Int) = x := Int.toNat_of_nonneg r.1
    refine ⟨r, ?_⟩
    rw [← e] at hx ⊢
    have ne : a ≠ x.toNat := fun z => by
      rw [← z] at hx
      exact tb.irr ha hx
    exact (ordOf_pos tb no ha (by omega) ne).mpr hx
  · rintro ⟨r, lt⟩
    have e : ((x.toNat : Nat) : Int) = x := Int.toNat_of_nonneg r.1
    rw [← e] at lt ⊢
    have ne : a ≠ x.toNat := fun z => by
      rw [← z] at lt
      omega
    exact (ordOf_pos tb no ha (by omega) ne).mp lt
theorem ord_one {n : Nat} {xs ys : List Int} (o1 : Ord n xs) (o2 : Ord n ys) (h : ∀ a b : Nat, a < n → b < n → pos xs a < pos xs b → pos ys a < pos ys b) : xs = ys := by
  have gen : ∀ (zs ws : List Int), zs.Perm ws → zs.Pairwise (fun a b => pos ys a < pos ys b) → ws.Pairwise (fun a b => pos ys a < pos ys b) → zs = ws := by
    intro zs
    induction zs with
    | nil => intro ws p _ _; rw [List.nil_perm.mp p]
    | cons z zs ih =>
      intro ws p h1 h2
      cases ws with
      | nil => have := p.length_eq; simp at this
      | cons w ws =>
        have h1' := List.pairwise_cons.mp h1
        have h2' := List.pairwise_cons.mp h2
        have e : z = w := by
          rcases List.mem_cons.mp (p.mem_iff.mp List.mem_cons_self) with q | q
          · exact q
          · rcases List.mem_cons.mp (p.mem_iff.mpr (List.mem_cons_self (a := w) (l := ws))) with r | r
            · exact r.symm
            · have := h2'.1 z q
              have := h1'.1 w r
              omega
        subst e
        rw [ih ws (List.Perm.cons_inv p) h1'.2 h2'.2]
  have at_ : ∀ (zs : List Int), Ord n zs → ∀ (i : Nat) (l : i < zs.length), ∃ a : Nat, zs[i] = (a : Int) ∧ a < n ∧ pos zs a = i := fun zs o i l => by
    have m := o.mem.mp (List.getElem_mem l)
    refine ⟨zs[i].toNat, by omega, by omega, ?_⟩
    rw [Int.toNat_of_nonneg m.1]
    exact nd_at o.nd (pos_at (List.getElem_mem l)).1 (List.getElem?_eq_getElem l)
  refine gen xs ys (o1.perm.trans o2.perm.symm) ?_ ?_
  · refine List.pairwise_iff_getElem.mpr fun i j li lj lt => ?_
    obtain ⟨a, ea, la, pa⟩ := at_ xs o1 i li
    obtain ⟨b, eb, lb, pb⟩ := at_ xs o1 j lj
    rw [ea, eb]
    exact h a b la lb (by omega)
  · refine List.pairwise_iff_getElem.mpr fun i j li lj lt => ?_
    obtain ⟨a, ea, la, pa⟩ := at_ ys o2 i li
    obtain ⟨b, eb, lb, pb⟩ := at_ ys o2 j lj
    rw [ea, eb]
    omega
end DL
namespace DL
open PySem PySem.Spec PyProof.Rows L2 LamX PySem.W SL
def At (sl : List Int) (s k : Nat) : Prop := sl[s]? = some (k : Int)
structure Lay (m n : Nat) (sl : List Int) : Prop where
  len : sl.length = n
  rng : ∀ x ∈ sl, -1 ≤ x ∧ x < m
  inj : ∀ s t k, At sl s k → At sl t k → s = t
theorem At.one {sl : List Int} {s j k : Nat} (h : At sl s j) (q : At sl s k) : j = k := by
  unfold At at h q
  rw [h] at q
  have := Option.some.inj q
  omega
theorem At.lt {sl : List Int} {s k : Nat} (h : At sl s k) : s < sl.length := (List.getElem?_eq_some_iff.mp h).1
theorem Lay.key {m n : Nat} {sl : List Int} (L : Lay m n sl) {s k : Nat} (h : At sl s k) : k < m ∧ s < n := by
  have := L.rng _ (List.mem_of_getElem? h)
  have := h.lt
  have := L.len
  omega
theorem Lay.either {m n : Nat} {sl : List Int} (L : Lay m n sl) {s : Nat} (h : s < n) : sl[s]? = some (-1) ∨ ∃ k, At sl s k := by
  have lt : s < sl.length := by rw [L.len]; exact h
  have e := List.getElem?_eq_getElem lt
  have r := L.rng _ (List.getElem_mem lt)
  by_cases z : sl[s] = -1
  · left; rw [e, z]
  · right
    refine ⟨sl[s].toNat, ?_⟩
    unfold At
    rw [e]
    congr 1
    omega
theorem At.ne {sl : List Int} {s k : Nat} (h : At sl s k) : sl[s]? ≠ some (-1) := by
  unfold At at h
  rw [h]
  intro z
  have := Option.some.inj z
  omega
theorem at_set {sl : List Int} {s t a k : Nat} (h : s < sl.length) : At (sl.set s (a : Int)) t k ↔ (t = s ∧ k = a) ∨ (t ≠ s ∧ At sl t k) := by
  unfold At
  by_cases e : t = s
  · subst e
    rw [List.getElem?_set_self h]
    constructor
    · intro z
      have := Option.some.inj z
      exact .inl ⟨rfl, by omega⟩
    · rintro (⟨_, z⟩ | ⟨z, _⟩)
      · rw [z]
      · exact absurd rfl z
  · rw [List.getElem?_set_ne (fun z => e z.symm)]
    constructor
    · exact fun z => .inr ⟨e, z⟩
    · rintro (⟨z, _⟩ | ⟨_, z⟩)
      · exact absurd z e
      · exact z
theorem Lay.set {m n : Nat} {sl : List Int} (L : Lay m n sl) {s a : Nat} (hs : s < n) (ha : a < m) (fr : ∀ t, ¬ At sl t a) : Lay m n (sl.set s (a : Int)) := by
  have ls : s < sl.length := by rw [L.len]; exact hs
  refine ⟨by rw [List.length_set]; exact L.len, fun x hx => ?_, fun u t k h1 h2 => ?_⟩
  · rcases List.mem_or_eq_of_mem_set hx with z | z
    · exact L.rng x z
    · omega
  · rcases (at_set ls).mp h1 with ⟨e1, e2⟩ | ⟨n1, q1⟩ <;> rcases (at_set ls).mp h2 with ⟨e3, e4⟩ | ⟨n2, q2⟩
    · omega
    · subst e2; exact absurd q2 (fr t)
    · subst e4; exact absurd q1 (fr u)
    · exact L.inj _ _ _ q1 q2
structure Setg (m n : Nat) (P : List (List Int)) (R : List (List (List Int))) : Prop where
  pl : P.length = m
  po : ∀ o ∈ P, Ord n o
  rl : R.length = n
  rt : ∀ t ∈ R, Tb m t
def pr (P : List (List Int)) (a i : Nat) : Nat := ((P.getD a []).getD i 0).toNat
def rk (P : List (List Int)) (a s : Nat) : Nat := pos (P.getD a []) (s : Int)
def bt (R : List (List (List Int))) (s a b : Nat) : Bool := decide ((b : Int) ∈ (R.getD s []).getD a [])
section
variable {m n : Nat} {P : List (List Int)} {R : List (List (List Int))}
theorem getD_memL {α : Type} {l : List α} {i : Nat} {d : α} (h : i < l.length) : l.getD i d ∈ l := by
  rw [List.getD_eq_getElem?_getD, List.getElem?_eq_getElem h]
  exact List.getElem_mem h
theorem Setg.ord (S : Setg m n P R) {a : Nat} (h : a < m) : Ord n (P.getD a []) := S.po _ (getD_memL (by rw [S.pl]; exact h))
theorem Setg.tb (S : Setg m n P R) {s : Nat} (h : s < n) : Tb m (R.getD s []) := S.rt _ (getD_memL (by rw [S.rl]; exact h))
theorem Setg.pr_at (S : Setg m n P R) {a i : Nat} (ha : a < m) (hi : i < n) : (P.getD a [])[i]? = some (pr P a i : Int) ∧ pr P a i < n := by
  have o := S.ord ha
  have li : i < (P.getD a []).length := by rw [o.len]; exact hi
  have e := List.getElem?_eq_getElem li
  have r := o.mem.mp (List.getElem_mem li)
  unfold pr
  rw [List.getD_eq_getElem?_getD (l := P.getD a []), e]
  exact ⟨by congr 1; show _ = (((P.getD a [])[i].toNat : Nat) : Int); omega, by show (P.getD a [])[i].toNat < n; omega⟩
theorem Setg.rk_at (S : Setg m n P R) {a s : Nat} (ha : a < m) (hs : s < n) : (P.getD a [])[rk P a s]? = some (s : Int) ∧ rk P a s < n ∧ ixOf (s : Int) (P.getD a []) = some (rk P a s) := by
  have o := S.ord ha
  have h := pos_at (ns := P.getD a []) (x := (s : Int)) (o.mem.mpr (by omega))
  have l := (List.getElem?_eq_some_iff.mp h.1).1
  rw [o.len] at l
  exact ⟨h.1, l, h.2⟩
theorem Setg.rk_pr (S : Setg m n P R) {a i : Nat} (ha : a < m) (hi : i < n) : rk P a (pr P a i) = i := by
  obtain ⟨e, l⟩ := S.pr_at ha hi
  exact nd_at (S.ord ha).nd (S.rk_at ha l).1 e
theorem Setg.pr_rk (S : Setg m n P R) {a s : Nat} (ha : a < m) (hs : s < n) : pr P a (rk P a s) = s := by
  obtain ⟨e, l, _⟩ := S.rk_at ha hs
  have z := (S.pr_at ha l).1
  rw [e] at z
  have := Option.some.inj z
  omega
theorem Setg.rk_inj (S : Setg m n P R) {a s t : Nat} (ha : a < m) (hs : s < n) (ht : t < n) (e : rk P a s = rk P a t) : s = t := by
  rw [← S.pr_rk ha hs, e, S.pr_rk ha ht]
theorem Setg.bt_not (S : Setg m n P R) {s a b : Nat} (hs : s < n) (ha : a < m) (hb : b < m) (ne : a ≠ b) : bt R s a b = !bt R s b a := by
  have z := (S.tb hs).dec2 ha hb ne
  unfold Beats at z
  unfold bt
  by_cases h : (a : Int) ∈ (R.getD s []).getD b []
  · rw [decide_eq_true h, decide_eq_false fun q => z.mp q h]; rfl
  · rw [decide_eq_false h, decide_eq_true (z.mpr h)]; rfl
def Ahead (P : List (List Int)) (sl : List Int) : Prop := ∀ s k, At sl s k → ∀ j, j < rk P k s → ∃ k', At sl (pr P k j) k'
structure Good (m n : Nat) (P : List (List Int)) (sl : List Int) : Prop where
  lay : Lay m n sl
  ah : Ahead P sl
structure Go (m n : Nat) (P : List (List Int)) (sl : List Int) (a i : Nat) : Prop where
  g : Good m n P sl
  ha : a < m
  hi : i < n
  fr : ∀ t, ¬ At sl t a
  ask : ∀ j, j < i → ∃ k', At sl (pr P a j) k'
  room : ∃ t, t < n ∧ sl[t]? = some (-1)
theorem next_lt (S : Setg m n P R) {sl : List Int} {a i : Nat} (ha : a < m) (hi : i < n) (ask : ∀ j, j < i → ∃ k', At sl (pr P a j) k') (room : ∃ t, t < n ∧ sl[t]? = some (-1)) {k : Nat} (tk : At sl (pr P a i) k) : i + 1 < n := by
  obtain ⟨t, lt, e⟩ := room
  have l := (S.rk_at ha lt).2.1
  have p := S.pr_rk ha lt
  rcases Nat.lt_trichotomy (rk P a t) i with q | q | q
  · obtain ⟨k', h⟩ := ask _ q
    rw [p] at h
    exact absurd e h.ne
  · rw [← q, p] at tk
    exact absurd e tk.ne
  · omega
theorem Go.on (S : Setg m n P R) {sl : List Int} {a i k : Nat} (G : Go m n P sl a i) (tk : At sl (pr P a i) k) : Go m n P sl a (i + 1) := by
  refine ⟨G.g, G.ha, next_lt S G.ha G.hi G.ask G.room tk, G.fr, fun j lj => ?_, G.room⟩
  rcases Nat.lt_or_ge j i with q | q
  · exact G.ask j q
  · rw [show j = i by omega]; exact ⟨k, tk⟩
theorem taken_set {sl : List Int} {s a : Nat} (h : s < sl.length) {t k : Nat} (tk : At sl t k) : ∃ k', At (sl.set s (a : Int)) t k' := by
  by_cases e : t = s
  · exact ⟨a, (at_set h).mpr (.inl ⟨e, rfl⟩)⟩
  · exact ⟨k, (at_set h).mpr (.inr ⟨e, tk⟩)⟩
theorem Good.put (S : Setg m n P R) {sl : List Int} {a i : Nat} (g : Good m n P sl) (ha : a < m) (hi : i < n) (fr : ∀ t, ¬ At sl t a) (ask : ∀ j, j < i → ∃ k', At sl (pr P a j) k') : Good m n P (sl.set (pr P a i) (a : Int)) := by
  have ls := (S.pr_at ha hi).2
  have ls' : pr P a i < sl.length := by rw [g.lay.len]; exact ls
  refine ⟨g.lay.set ls ha fr, fun s k h j lj => ?_⟩
  rcases (at_set ls').mp h with ⟨e1, e2⟩ | ⟨e1, q⟩
  · subst e1
    subst e2
    rw [S.rk_pr ha hi] at lj
    obtain ⟨k', h'⟩ := ask j lj
    exact taken_set ls' h'
  · obtain ⟨k', h'⟩ := g.ah s k q j lj
    exact taken_set ls' h'
theorem Go.swap (S : Setg m n P R) {sl : List Int} {a i k : Nat} (G : Go m n P sl a i) (tk : At sl (pr P a i) k) : Go m n P (sl.set (pr P a i) (a : Int)) k (rk P k (pr P a i) + 1) := by
  have ls := (S.pr_at G.ha G.hi).2
  have ls' : pr P a i < sl.length := by rw [G.g.lay.len]; exact ls
  have hk := (G.g.lay.key tk).1
  have lr := (S.rk_at hk ls).2.1
  have pk := S.pr_rk hk ls
  have nx := next_lt S (sl := sl) hk lr (G.g.ah _ _ tk) G.room (k := k) (by rw [pk]; exact tk)
  refine ⟨G.g.put S G.ha G.hi G.fr G.ask, hk, nx, fun t h => ?_, fun j lj => ?_, ?_⟩
  · rcases (at_set ls').mp h with ⟨_, e2⟩ | ⟨ne, q⟩
    · subst e2; exact G.fr _ tk
    · exact ne (G.g.lay.inj _ _ _ q tk)
  · rcases Nat.lt_or_ge j (rk P k (pr P a i)) with q | q
    · obtain ⟨k', h'⟩ := G.g.ah _ _ tk j q
      exact taken_set ls' h'
    · rw [show j = rk P k (pr P a i) by omega, pk]
      exact taken_set ls' tk
  · obtain ⟨t, lt, e⟩ := G.room
    refine ⟨t, lt, ?_⟩
    have ne : t ≠ pr P a i := fun z => by rw [z] at e; exact tk.ne e
    rw [List.getElem?_set_ne (fun z => ne z.symm)]
    exact e
def insG (P : List (List Int)) (R : List (List (List Int))) : Nat → List Int → Nat → Nat → Option (List Int × List (Nat × Nat))
  | 0, _, _, _ => none
  | f + 1, sl, a, i => match sl.getD (pr P a i) (-1) with
    | Int.ofNat k => if bt R (pr P a i) a k = true then (insG P R f (sl.set (pr P a i) (a : Int)) k (rk P k (pr P a i) + 1)).map fun x => (x.1, (a, pr P a i) :: x.2) else insG P R f sl a (i + 1)
    | Int.negSucc _ => some (sl.set (pr P a i) (a : Int), [(a, pr P a i)])
theorem insG_free {f : Nat} {sl : List Int} {a i : Nat} (h : sl[pr P a i]? = some (-1)) : insG P R (f + 1) sl a i = some (sl.set (pr P a i) (a : Int), [(a, pr P a i)]) := by
  unfold insG
  rw [List.getD_eq_getElem?_getD, h]
  rfl
theorem insG_taken {f : Nat} {sl : List Int} {a i k : Nat} (h : At sl (pr P a i) k) : insG P R (f + 1) sl a i = if bt R (pr P a i) a k = true then (insG P R f (sl.set (pr P a i) (a : Int)) k (rk P k (pr P a i) + 1)).map fun x => (x.1, (a, pr P a i) :: x.2) else insG P R f sl a (i + 1) := by
  conv => lhs; unfold insG
  unfold At at h
  rw [List.getD_eq_getElem?_getD, h]
  rfl
def wt (P : List (List Int)) (n : Nat) (t : Nat) (x : Int) : Nat := if x < 0 then 0 else n - rk P x.toNat t
def pot (P : List (List Int)) (n : Nat) (sl : List Int) : Nat := ((List.range sl.length).map fun t => wt P n t (sl.getD t (-1))).sum
theorem sum_set_nat : ∀ (l : List Nat) (i x : Nat), i < l.length → (l.set i x).sum + l.getD i 0 = l.sum + x
  | y :: r, 0, x, _ => by simp; omega
  | y :: r, i + 1, x, h => by
    have z := sum_set_nat r i x (by simpa using h)
    simp at z ⊢
    omega
theorem pot_set {sl : List Int} {s : Nat} (h : s < sl.length) (x : Int) : pot P n (sl.set s x) + wt P n s (sl.getD s (-1)) = pot P n sl + wt P n s x := by
  unfold pot
  rw [List.length_set]
  have e : (List.range sl.length).map (fun t => wt P n t ((sl.set s x).getD t (-1))) = ((List.range sl.length).map fun t => wt P n t (sl.getD t (-1))).set s (wt P n s x) := by
    refine List.ext_getElem (by simp) fun i h1 h2 => ?_
    rw [List.getElem_set, List.getElem_map, List.getElem_range, List.getElem_map, List.getElem_range]
    by_cases q : s = i
    · subst q
      rw [if_pos rfl, List.getD_eq_getElem?_getD, List.getElem?_set_self h]
      rfl
    · rw [if_neg q, List.getD_eq_getElem?_getD, List.getElem?_set_ne q, ← List.getD_eq_getElem?_getD]
  rw [e]
  have z := sum_set_nat ((List.range sl.length).map fun t => wt P n t (sl.getD t (-1))) s (wt P n s x) (by simpa using h)
  have z2 : ((List.range sl.length).map fun t => wt P n t (sl.getD t (-1))).getD s 0 = wt P n s (sl.getD s (-1)) := by
    rw [List.getD_eq_getElem?_getD, List.getElem?_map, List.getElem?_eq_getElem (by simpa using h), List.getElem_range]
    rfl
  rw [z2] at z
  exact z
theorem insG_total (S : Setg m n P R) : ∀ (f : Nat) (sl : List Int) (a i : Nat), Go m n P sl a i → pot P n sl + (n - i) < f → ∃ r, insG P R f sl a i = some r
  | 0, sl, a, i, G, h => absurd h (Nat.not_lt_zero _)
  | f + 1, sl, a, i, G, h => by
    have hi := G.hi
    have ls := (S.pr_at G.ha G.hi).2
    have ls' : pr P a i < sl.length := by rw [G.g.lay.len]; exact ls
    rcases G.g.lay.either ls with e | ⟨k, tk⟩
    · exact ⟨_, insG_free e⟩
    · rw [insG_taken tk]
      by_cases b : bt R (pr P a i) a k = true
      · rw [if_pos b]
        have G2 := G.swap S tk
        have hk := (G.g.lay.key tk).1
        have lr := (S.rk_at hk ls).2.1
        have z := pot_set (P := P) (n := n) ls' (a : Int)
        have e1 : wt P n (pr P a i) (sl.getD (pr P a i) (-1)) = n - rk P k (pr P a i) := by
          unfold At at tk
          rw [List.getD_eq_getElem?_getD, tk]
          unfold wt
          rw [if_neg (by show ¬ (k : Int) < 0; omega)]
          rfl
        have e2 : wt P n (pr P a i) (a : Int) = n - i := by
          unfold wt
          rw [if_neg (by omega), Int.toNat_natCast, S.rk_pr G.ha G.hi]
        rw [e1, e2] at z
        obtain ⟨r, hr⟩ := insG_total S f _ _ _ G2 (by omega)
        rw [hr]
        exact ⟨_, rfl⟩
      · rw [if_neg b]
        exact insG_total S f _ _ _ (G.on S tk) (by omega)
theorem insG_good (S : Setg m n P R) : ∀ (f : Nat) (sl : List Int) (a i : Nat) (L : List Int) (p : List (Nat × Nat)), Go m n P sl a i → insG P R f sl a i = some (L, p) → Good m n P L ∧ (∀ k, (∃ s, At L s k) ↔ k = a ∨ ∃ s, At sl s k) ∧ ∀ x ∈ p, x.1 < m ∧ x.2 < n
  | 0, sl, a, i, L, p, G, h => by cases h
  | f + 1, sl, a, i, L, p, G, h => by
    have ls := (S.pr_at G.ha G.hi).2
    have ls' : pr P a i < sl.length := by rw [G.g.lay.len]; exact ls
    rcases G.g.lay.either ls with e | ⟨k, tk⟩
    · rw [insG_free e] at h
      cases h
      refine ⟨G.g.put S G.ha G.hi G.fr G.ask, fun k => ?_, fun x hx => ?_⟩
      · constructor
        · rintro ⟨s, hs⟩
          rcases (at_set ls').mp hs with ⟨_, z⟩ | ⟨_, z⟩
          · exact .inl z
          · exact .inr ⟨s, z⟩
        · rintro (rfl | ⟨s, hs⟩)
          · exact ⟨_, (at_set ls').mpr (.inl ⟨rfl, rfl⟩)⟩
          · refine ⟨s, (at_set ls').mpr (.inr ⟨fun z => ?_, hs⟩)⟩
            rw [z] at hs
            exact hs.ne e
      · rw [List.mem_singleton.mp hx]
        exact ⟨G.ha, ls⟩
    · rw [insG_taken tk] at h
      by_cases b : bt R (pr P a i) a k = true
      · rw [if_pos b] at h
        obtain ⟨⟨L2, p2⟩, h2, h3⟩ := Option.map_eq_some_iff.mp h
        cases h3
        obtain ⟨g, ks, pr_⟩ := insG_good S f _ _ _ _ p2 (G.swap S tk) h2
        refine ⟨g, fun j => ?_, fun x hx => ?_⟩
        · rw [ks]
          constructor
          · rintro (rfl | ⟨s, hs⟩)
            · exact .inr ⟨_, tk⟩
            · rcases (at_set ls').mp hs with ⟨_, z⟩ | ⟨_, z⟩
              · exact .inl z
              · exact .inr ⟨s, z⟩
          · rintro (rfl | ⟨s, hs⟩)
            · exact .inr ⟨_, (at_set ls').mpr (.inl ⟨rfl, rfl⟩)⟩
            · by_cases e : s = pr P a i
              · rw [e] at hs
                exact .inl (hs.one tk)
              · exact .inr ⟨s, (at_set ls').mpr (.inr ⟨e, hs⟩)⟩
        · rcases List.mem_cons.mp hx with z | z
          · rw [z]; exact ⟨G.ha, ls⟩
          · exact pr_ x z
      · rw [if_neg b] at h
        exact insG_good S f _ _ _ L p (G.on S tk) h
def ins (P : List (List Int)) (R : List (List (List Int))) (sl : List Int) (a : Nat) : List Int × List (Nat × Nat) := (insG P R (pot P R.length sl + R.length + 1) sl a 0).getD (sl, [])
theorem Go.start {sl : List Int} {a : Nat} (g : Good m n P sl) (ha : a < m) (fr : ∀ t, ¬ At sl t a) (room : ∃ t, t < n ∧ sl[t]? = some (-1)) : Go m n P sl a 0 := by
  have r := room
  obtain ⟨t, lt, _⟩ := r
  exact ⟨g, ha, by omega, fr, fun j lj => absurd lj (Nat.not_lt_zero _), room⟩
theorem ins_eq (S : Setg m n P R) {sl : List Int} {a : Nat} (G : Go m n P sl a 0) : insG P R (pot P R.length sl + R.length + 1) sl a 0 = some (ins P R sl a) := by
  obtain ⟨r, h⟩ := insG_total S (pot P R.length sl + R.length + 1) sl a 0 G (by rw [S.rl]; omega)
  unfold ins
  rw [h]
  rfl
end
end DL
namespace DL
open PySem PySem.Spec PyProof.Rows L2 LamX PySem.W SL
def F_insert : DTS := (sSeq (sIf (dTest (dOp dIn (dVar 3) (dVar 2))) sNever sNext) (sSeq (sIf (dTest (dOp dNotIn (dC (.int (-1))) (dVar 2))) sNever sNext) (sSeq (sSet 4 (dCB dListN (daCons (dVar 2) daNil))) (sSeq (sSet 5 (dLstN daNil)) (sSeq (sSet 6 (dVar 3)) (sSeq (sSet 7 (dOp dIx (dOp dIx (dVar 0) (dVar 3)) (dC (.int 0)))) (sSeq (sWhile (dTest (dOp dNe (dOp dIx (dVar 4) (dVar 7)) (dC (.int (-1))))) (sSeq (sIf (dTest (dOp dNotIn (dVar 6) (dOp dIx (dOp dIx (dVar 1) (dVar 7)) (dOp dIx (dVar 4) (dVar 7))))) (sSeq (sDrop (dMtL mAppend (dVar 5) (daCons (dTup (daCons (dVar 6) (daCons (dVar 7) daNil))) daNil))) (sAsg (dTup (daCons (dOp dIx (dVar 4) (dVar 7)) (daCons (dVar 6) daNil))) (gTp 2 (gsCons (gNm 6) (gsCons (gSb (dVar 4) (dVar 7)) gsNil))))) sNext) (sSet 7 (dOp dIx (dOp dIx (dVar 0) (dVar 6)) (dOp dAdd (dIndex (dOp dIx (dVar 0) (dVar 6)) (daCons (dVar 7) daNil)) (dC (.int 1))))))) (sSeq (sAsg (dVar 6) (gSb (dVar 4) (dVar 7))) (sSeq (sDrop (dMtL mAppend (dVar 5) (daCons (dTup (daCons (dVar 6) (daCons (dVar 7) daNil))) daNil))) (sRet (dTup (daCons (dCB dTuple (daCons (dVar 4) daNil)) (daCons (dCB dTuple (daCons (dVar 5) daNil)) daNil)))))))))))))
def F_layout_of (g_insert : DRs) : DTS := (sSeq (sSet 3 (dOp dMul (dTup (daCons (dC (.int (-1))) daNil)) (dCB dLen (daCons (dVar 1) daNil)))) (sSeq (sFor (wSeq (dVar 2)) (gNm 4) (sSet 3 (dOp dIx (dCB g_insert (daCons (dVar 0) (daCons (dVar 1) (daCons (dVar 3) (daCons (dVar 4) daNil))))) (dC (.int 0))))) (sRet (dVar 3))))
end DL
namespace DL
open PySem PySem.Spec PyProof.Rows L2 LamX PySem.W SL
end DL
namespace DL
open PySem PySem.Spec PyProof.Rows L2 LamX PySem.W SL
theorem sm_row {ns : List Int} {m : Nat} (h : ∀ x ∈ ns, -100 ≤ x ∧ x ≤ 1000) (l : ns.length ≤ m) : Sm 1 (m * 22 + 3) (rowD ns) := by
  unfold rowD
  refine sm_tup (k := 0) (c := 20) (fun d hd => ?_) (by rw [List.length_map]; exact l)
  obtain ⟨i, hi, rfl⟩ := List.mem_map.mp hd
  exact sm_int (h i hi).1 (h i hi).2
theorem sm_rows {nss : List (List Int)} {m k : Nat} (h : ∀ ns ∈ nss, (∀ x ∈ ns, -100 ≤ x ∧ x ≤ 1000) ∧ ns.length ≤ m) (l : nss.length ≤ k) : Sm 2 (k * ((m * 22 + 3) + 2) + 3) (rowsD nss) := by
  unfold rowsD
  refine sm_tup (k := 1) (fun d hd => ?_) (by rw [List.length_map]; exact l)
  obtain ⟨i, hi, rfl⟩ := List.mem_map.mp hd
  exact sm_row (h i hi).1 (h i hi).2
theorem Ord.sm {n : Nat} {ns : List Int} (o : Ord n ns) (h : n ≤ 16) : Sm 1 355 (rowD ns) := by
  have z := sm_row (ns := ns) (m := 16) (fun x hx => by have := o.mem.mp hx; omega) (by rw [o.len]; exact h)
  exact z
theorem Tb.sm {n : Nat} {t : List (List Int)} (o : Tb n t) (h : n ≤ 16) : Sm 2 5715 (rowsD t) := by
  have z := sm_rows (nss := t) (m := 16) (k := 16) (fun ns hn => ⟨fun x hx => by have := (o.row hn).2 x hx; omega, by have := o.few hn; omega⟩) (by rw [o.len]; exact h)
  exact z
def txt (d : D) : Str := match pdT d with | some p => p.shown | none => ""
theorem repr_txt {st : DSt} {d : D} {Q : DK} {k c : Nat} (h : Sm k c d) (nr : ∀ n, d ≠ .ref n) (hk : k ≤ 40) (hc : c ≤ 1000000) (q : Q (.str (txt d)) st) : dRepr [d] st Q := by
  obtain ⟨p, e, el⟩ := h
  have e2 : pdS st d = some p := by
    cases d with
    | ref n => exact absurd rfl (nr n)
    | _ => exact e
  have e3 : txt d = p.shown := by unfold txt; rw [e]
  rw [e3] at q
  simp only [e_repr, e2, e_onO]
  refine ⟨⟨el.sh, by have := el.dp; omega, ?_⟩, q⟩
  have := el.ln
  have : (1000000 : Nat) ≤ sizeLine := by decide
  omega
end DL
namespace DL
open PySem PySem.Spec PyProof.Rows L2 LamX PySem.W SL
def g_right : DRs := fun ds st Q => ∃ p : Nat, ds = [.ref p] ∧ Pot 100000 p st ∧ ∀ o : O, PotO 0 o → Q (.bl true) (st.set p o)
theorem ar_right (ds : List D) (st : DSt) (Q : DK) (h : g_right ds st Q) : ds.length = 1 := by
  obtain ⟨_, rfl, _⟩ := h
  rfl
instance {ps : List (List Int)} {s : Int} {a b : Nat} : Decidable (Far ps s a b) := by unfold Far; infer_instance
end DL
namespace DL
open PySem PySem.Spec PyProof.Rows L2 LamX PySem.W SL
theorem compL_inv {te : DTE} {r : DEnv} {Q : List D → DSt → Prop} {xs : List D} {i : Nat} (K : Nat) (W : Nat → List D → DSt → Prop)
    (step : ∀ (k : Nat) (d : D) (acc : List D) (st : DSt) (N : DK), k < K → W k acc st → (∀ y st4, W (k + 1) (acc ++ [y]) st4 → N y st4) → te (r.set i (some d)) st N) (fin : ∀ acc st, W K acc st → Q acc st) :
    ∀ (items acc : List D) (k : Nat) (st : DSt), k + items.length = K → W k acc st → compL ⟨xs, none⟩ (gNm i) dtYes te r Q items acc st
  | [], acc, k, st, e, w => by
    have e' : k = K := e
    subst e'
    exact fin acc st w
  | d :: ds, acc, k, st, e, w => by
    rw [List.length_cons] at e
    show te (r.set i (some d)) st _
    exact step k d acc st _ (by omega) w fun y st4 w4 => compL_inv K W step fin ds _ (k + 1) st4 (by omega) w4
theorem mixed_ord {n : Nat} {ys : List D} (pm : ys.Perm (rgD 0 n)) : ∃ ns : List Int, ys = ns.map D.int ∧ Ord n ns := by
  rw [rg_ints] at pm
  have z : ∀ y ∈ ys, ∃ i : Int, y = .int i := fun y hy => by
    obtain ⟨i, _, rfl⟩ := List.mem_map.mp (pm.mem_iff.mp hy)
    exact ⟨i, rfl⟩
  refine ⟨ys.map fun d => match d with | .int i => i | _ => 0, ?_, ⟨?_⟩⟩
  · rw [List.map_map]
    refine (List.map_id ys).symm.trans (List.map_congr_left fun y hy => ?_)
    obtain ⟨i, rfl⟩ := z y hy
    rfl
  · have w := pm.map (fun d : D => match d with | .int i => i | _ => 0)
    rw [List.map_map] at w
    rw [show ((fun d : D => match d with | .int i => i | _ => 0) ∘ D.int) = id from rfl, List.map_id] at w
    exact w
end DL
namespace DL
open PySem PySem.Spec PyProof.Rows L2 LamX PySem.W SL
def g_law : DRs := fun ds st Q => ∃ (ns : List Int) (x : D), ds = [x] ∧ Scr ns x ∧ ns.length ≤ 63 ∧ ∀ st' : DSt, Q (.bl true) st'
theorem ar_law (ds : List D) (st : DSt) (Q : DK) (h : g_law ds st Q) : ds.length = 1 := by
  obtain ⟨_, _, rfl, _⟩ := h
  rfl
theorem compL_true {te : DTE} {r : DEnv} {Q : List D → DSt → Prop} {xs : List D} {i : Nat} : ∀ (items acc : List D) (st : DSt), (∀ d ∈ items, ∀ (st : DSt) (Q' : DK), (∀ st4, Q' (.bl true) st4) → te (r.set i (some d)) st Q') → (∀ st', Q (acc ++ List.replicate items.length (.bl true)) st') → compL ⟨xs, none⟩ (gNm i) dtYes te r Q items acc st
  | [], acc, st, _, q => by
    have q' : Q acc st := by simpa using q st
    exact q'
  | d :: ds, acc, st, h, q => by
    show te (r.set i (some d)) st _
    refine h d List.mem_cons_self st _ fun st4 => compL_true ds _ st4 (fun d' hd => h d' (List.mem_cons_of_mem _ hd)) fun st' => ?_
    have z := q st'
    rw [List.length_cons, List.replicate_succ] at z
    simpa using z
end DL
namespace DL
open PySem PySem.Spec PyProof.Rows L2 LamX PySem.W SL
mutual
theorem pdT_eqv : ∀ {d : D} {p : PyData}, pdT d = some p → PyData.eqv p p = true
  | .non, _, e => by simp [pdT] at e; subst e; simp [PyData.eqv]
  | .bl b, _, e => by simp [pdT] at e; subst e; simp [PyData.eqv]
  | .int b, _, e => by simp [pdT] at e; subst e; simp [PyData.eqv]
  | .str b, _, e => by simp [pdT] at e; subst e; simp [PyData.eqv]
  | .tup ds, _, e => by
    simp only [pdT, Option.map_eq_some_iff] at e
    obtain ⟨ps, e, rfl⟩ := e
    simp only [PyData.eqv]
    exact pdTs_eqv e
  | .tuk ds, _, e => by
    simp only [pdT, Option.map_eq_some_iff] at e
    obtain ⟨ps, e, rfl⟩ := e
    simp only [PyData.eqv]
    exact pdTs_eqv e
  | .lst ds, _, e => by
    simp only [pdT, Option.map_eq_some_iff] at e
    obtain ⟨ps, e, rfl⟩ := e
    simp only [PyData.eqv]
    exact pdTs_eqv e
  | .scr ds, _, e => by
    simp only [pdT, Option.map_eq_some_iff] at e
    obtain ⟨ps, e, rfl⟩ := e
    simp only [PyData.eqv]
    exact pdTs_eqv e
  | .ref n, _, e => by simp [pdT] at e
theorem pdTs_eqv : ∀ {d : List D} {p : List PyData}, pdTs d = some p → PyData.eqvAll p p = true
  | [], _, e => by simp [pdTs] at e; subst e; simp [PyData.eqvAll]
  | d :: ds, _, e => by
    unfold pdTs at e
    cases q : pdT d with
    | none => rw [q] at e; cases e
    | some y =>
      rw [q] at e
      simp only [Option.map_eq_some_iff] at e
      obtain ⟨ps, e, rfl⟩ := e
      simp only [PyData.eqvAll, pdT_eqv q, pdTs_eqv e, Bool.and_self]
end
theorem eq_tup {st : DSt} {k c : Nat} {xs : List D} {Q : DK} (sm : Sm k c (.tup xs)) (hk : k ≤ 50) (q : Q (.bl true) st) : dEqG false (.tup xs) (.tup xs) st Q := by
  obtain ⟨p, e1, el⟩ := sm
  have p1 : pdS st (.tup xs) = some p := by rw [← e1]; rfl
  show dEqD false (.tup xs) (.tup xs) st Q
  unfold dEqD
  rw [p1]
  refine ⟨⟨Sm.shaped el hk, Sm.shaped el hk⟩, ?_⟩
  show Q (.bl (PyData.eqv p p)) st
  rw [pdT_eqv e1]
  exact q
end DL
namespace DL
open PySem PySem.Spec PyProof.Rows L2 LamX PySem.W SL
theorem R_ord (n : Nat) : Ord n (R n) := ⟨.refl _⟩
theorem o1 : Ord 1 [0] := R_ord 1
theorem t1 : ordT [0] = [[]] := by
  have tb := o1.tb
  have l := tb.len
  obtain ⟨r, e⟩ := List.length_eq_one_iff.mp l
  have rr : r = [] := by
    refine List.eq_nil_iff_forall_not_mem.mpr fun x hx => ?_
    have m := tb.inr 0 (by omega) x (by rw [e]; exact hx)
    have ii := tb.irr (a := 0) (by omega)
    refine ii ?_
    unfold Beats
    rw [e]
    have : x = 0 := by omega
    rw [this] at hx
    exact hx
  rw [e, rr]
end DL
namespace DL
open PySem PySem.Spec PyProof.Rows L2 LamX PySem.W SL
end DL
namespace DL
open PySem PySem.Spec PyProof.Rows L2 LamX PySem.W SL
end DL
namespace DL
open PySem PySem.Spec PyProof.Rows L2 LamX PySem.W SL
end DL
namespace ML
def step (f c : Int) : Int := if f + c - 1 > 0 then f + c - 1 else 0
def run (f : Int) (c : List Int) : Int := c.foldl step f
def scan (f : Int) : List Int → List Int
  | [] => []
  | x :: r => step f x :: scan (step f x) r
theorem step_nn (f c : Int) : 0 ≤ step f c := by unfold step; split <;> omega
theorem step_mono {f g c : Int} (h : f ≤ g) : step f c ≤ step g c := by unfold step; split <;> split <;> omega
theorem run_nn {f : Int} (h : 0 ≤ f) : ∀ c : List Int, 0 ≤ run f c := by
  intro c
  induction c generalizing f with
  | nil => exact h
  | cons x r ih => exact ih (step_nn f x)
theorem run_mono {f g : Int} (h : f ≤ g) : ∀ c : List Int, run f c ≤ run g c := by
  intro c
  induction c generalizing f g with
  | nil => exact h
  | cons x r ih => exact ih (step_mono h)
theorem run_cons (f x : Int) (r : List Int) : run f (x :: r) = run (step f x) r := rfl
theorem run_append (f : Int) (a b : List Int) : run f (a ++ b) = run (run f a) b := by unfold run; rw [List.foldl_append]
theorem scan_length (f : Int) : ∀ c : List Int, (scan f c).length = c.length := by
  intro c
  induction c generalizing f with
  | nil => rfl
  | cons x r ih => show _ + 1 = _ + 1; rw [ih]
theorem scan_at (f : Int) : ∀ (c : List Int) (i : Nat), i < c.length → (scan f c)[i]? = some (run f (c.take (i + 1))) := by
  intro c
  induction c generalizing f with
  | nil => intro i h; cases h
  | cons x r ih =>
    intro i h
    cases i with
    | zero => rfl
    | succ i =>
      show (scan (step f x) r)[i]? = _
      rw [ih _ i (by simpa using h)]
      rfl
def sumL (c : List Int) : Int := c.foldr (· + ·) 0
theorem sumL_cons (x : Int) (r : List Int) : sumL (x :: r) = x + sumL r := rfl
theorem run_either : ∀ (c : List Int) (f g : Int), f ≤ g → run g c = run f c ∨ run g c = g + sumL c - c.length := by
  intro c
  induction c with
  | nil => intro f g h; right; show g = g + 0 - ((0 : Nat) : Int); omega
  | cons x r ih =>
    intro f g h
    rw [run_cons, run_cons, sumL_cons, List.length_cons]
    by_cases e : g + x - 1 > 0
    · have eg : step g x = g + x - 1 := by unfold step; rw [if_pos e]
      rcases ih (step f x) (step g x) (step_mono h) with z | z
      · exact .inl z
      · right; rw [z, eg]; omega
    · have eg : step g x = 0 := by unfold step; rw [if_neg e]
      have ef : step f x = 0 := by unfold step; rw [if_neg (by omega)]
      left; rw [eg, ef]
theorem run_again {c : List Int} (room : sumL c ≤ c.length) : run (run 0 c) c = run 0 c := by
  have nn : 0 ≤ run 0 c := run_nn (Int.le_refl 0) c
  rcases run_either c 0 (run 0 c) nn with z | z
  · exact z
  · have := run_mono nn c
    omega
theorem scan_zero : ∀ (c : List Int) (x y : Int), y < x → run x c = run y c → (0 : Int) ∈ scan x c := by
  intro c
  induction c with
  | nil => intro x y h e; have : x = y := e; omega
  | cons a r ih =>
    intro x y h e
    by_cases q : step x a = step y a
    · have : step x a = 0 := by
        unfold step at q ⊢
        split at q <;> split at q <;> omega
      show (0 : Int) ∈ step x a :: scan (step x a) r
      rw [this]
      exact List.mem_cons_self
    · have : step y a < step x a := by
        have := step_mono (c := a) (Int.le_of_lt h)
        omega
      exact List.mem_cons_of_mem _ (ih _ _ this e)
def flowsI (c : List Int) : List Int := scan (run 0 c) c
theorem flowsI_length (c : List Int) : (flowsI c).length = c.length := scan_length _ _
theorem scan_last {c : List Int} (f : Int) (h : c ≠ []) : (scan f c)[c.length - 1]? = some (run f c) := by
  have l := List.length_pos_iff.mpr h
  rw [scan_at f c (c.length - 1) (by omega), show c.length - 1 + 1 = c.length by omega, List.take_length]
theorem flowsI_zero {c : List Int} (h : c ≠ []) (room : sumL c ≤ c.length) : (0 : Int) ∈ flowsI c := by
  by_cases e : run 0 c = 0
  · have z := scan_last (run 0 c) h
    rw [run_again room, e] at z
    unfold flowsI
    rw [e]
    exact List.mem_of_getElem? z
  · have nn : 0 ≤ run 0 c := run_nn (Int.le_refl 0) c
    exact scan_zero c (run 0 c) 0 (by omega) (run_again room)
structure Flow (n : Nat) (c f : Nat → Int) : Prop where
  per : ∀ i, f (i + n) = f i
  nn : ∀ i, 0 ≤ f i
  rec_ : ∀ i, f (i + 1) = step (f i) (c (i + 1))
  zero : ∃ z, f z = 0
def cy (c : List Int) (i : Nat) : Int := c.getD (i % c.length) 0
theorem cy_per (c : List Int) (i : Nat) : cy c (i + c.length) = cy c i := by unfold cy; rw [Nat.add_mod_right]
theorem cy_lt {c : List Int} {i : Nat} (h : i < c.length) : cy c i = c.getD i 0 := by unfold cy; rw [Nat.mod_eq_of_lt h]
theorem per_mul {n : Nat} {f : Nat → Int} (h : ∀ i, f (i + n) = f i) (i : Nat) : ∀ m, f (i + n * m) = f i
  | 0 => rfl
  | m + 1 => by rw [Nat.mul_succ, ← Nat.add_assoc, h, per_mul h i m]
theorem per_mod {n : Nat} {f : Nat → Int} (h : ∀ i, f (i + n) = f i) (i : Nat) : f (i % n) = f i := by
  have z := per_mul h (i % n) (i / n)
  rw [Nat.mod_add_div] at z
  exact z.symm
theorem getD_of {c : List Int} {i : Nat} {x : Int} (h : c[i]? = some x) : c.getD i 0 = x := by rw [List.getD_eq_getElem?_getD, h]; rfl
theorem flowsI_flow {c : List Int} (h : c ≠ []) (room : sumL c ≤ c.length) : Flow c.length (cy c) (cy (flowsI c)) := by
  have l := List.length_pos_iff.mpr h
  have lf := flowsI_length c
  have at_ : ∀ i, i < c.length → cy (flowsI c) i = run (run 0 c) (c.take (i + 1)) := fun i hi => by
    rw [cy_lt (by rw [lf]; exact hi)]
    exact getD_of (scan_at _ _ _ hi)
  have per : ∀ i, cy (flowsI c) (i + c.length) = cy (flowsI c) i := fun i => by
    have z := cy_per (flowsI c) i
    rw [lf] at z
    exact z
  refine ⟨per, fun i => ?_, fun i => ?_, ?_⟩
  · rw [← per_mod per, at_ _ (Nat.mod_lt _ l)]
    exact run_nn (run_nn (Int.le_refl 0) c) _
  · rw [← per_mod per i, ← per_mod per (i + 1), ← per_mod (cy_per c) (i + 1)]
    have lt := Nat.mod_lt i l
    have tk : ∀ k, k < c.length → c.take (k + 1) = c.take k ++ [c.getD k 0] := fun k hk => by
      rw [List.take_succ, List.getElem?_eq_getElem hk, List.getD_eq_getElem?_getD, List.getElem?_eq_getElem hk]
      rfl
    by_cases e : i % c.length + 1 = c.length
    · have e2 : (i + 1) % c.length = 0 := by
        have : (i + 1) % c.length = (i % c.length + 1) % c.length := by rw [Nat.add_mod]; simp
        rw [this, e, Nat.mod_self]
      rw [e2, at_ _ l, at_ _ lt, e, List.take_length, tk 0 l, run_append, run_again room, cy_lt l]
      rfl
    · have e2 : (i + 1) % c.length = i % c.length + 1 := by
        have : (i + 1) % c.length = (i % c.length + 1) % c.length := by rw [Nat.add_mod]; simp
        rw [this, Nat.mod_eq_of_lt (by omega)]
      rw [e2, at_ _ (by omega), at_ _ lt, tk _ (show i % c.length + 1 < c.length by omega), run_append, cy_lt (by omega)]
      rfl
  · obtain ⟨i, hi⟩ := List.mem_iff_getElem?.mp (flowsI_zero h room)
    refine ⟨i, ?_⟩
    have lt := (List.getElem?_eq_some_iff.mp hi).1
    rw [cy_lt lt]
    exact getD_of hi
theorem Flow.le {n : Nat} {c f g : Nat → Int} (F : Flow n c f) (G : Flow n c g) (n0 : 0 < n) (i : Nat) : f i ≤ g i := by
  obtain ⟨z, hz⟩ := F.zero
  have up : ∀ k, f (z + k) ≤ g (z + k) := by
    intro k
    induction k with
    | zero => rw [Nat.add_zero, hz]; exact G.nn z
    | succ k ih => rw [← Nat.add_assoc, F.rec_, G.rec_]; exact step_mono ih
  have e : i + n * (z + 1) = z + (i + n * (z + 1) - z) := by
    have : z + 1 ≤ n * (z + 1) := Nat.le_mul_of_pos_left _ n0
    omega
  rw [← per_mul F.per i (z + 1), ← per_mul G.per i (z + 1), e]
  exact up _
theorem Flow.one {n : Nat} {c f g : Nat → Int} (F : Flow n c f) (G : Flow n c g) (n0 : 0 < n) (i : Nat) : f i = g i := by
  have := F.le G n0 i
  have := G.le F n0 i
  omega
end ML
namespace ML
def sumN (n : Nat) (g : Nat → Int) : Int := match n with
  | 0 => 0
  | n + 1 => sumN n g + g n
theorem sumN_congr {n : Nat} {g h : Nat → Int} (e : ∀ i, i < n → g i = h i) : sumN n g = sumN n h := by
  induction n with
  | zero => rfl
  | succ n ih => show _ + _ = _ + _; rw [ih fun i hi => e i (by omega), e n (by omega)]
theorem sumN_add (n : Nat) (g h : Nat → Int) : sumN n (fun i => g i + h i) = sumN n g + sumN n h := by
  induction n with
  | zero => rfl
  | succ n ih => show sumN n (fun i => g i + h i) + (g n + h n) = (sumN n g + g n) + (sumN n h + h n); rw [ih]; omega
theorem sumN_le {n : Nat} {g h : Nat → Int} (e : ∀ i, i < n → g i ≤ h i) : sumN n g ≤ sumN n h := by
  induction n with
  | zero => exact Int.le_refl _
  | succ n ih =>
    show sumN n g + g n ≤ sumN n h + h n
    have := ih fun i hi => e i (by omega)
    have := e n (by omega)
    omega
theorem sumN_const (n : Nat) (x : Int) : sumN n (fun _ => x) = n * x := by
  induction n with
  | zero => show (0 : Int) = ((0 : Nat) : Int) * x; simp
  | succ n ih => show sumN n (fun _ => x) + x = ((n + 1 : Nat) : Int) * x; rw [ih, Int.natCast_add, Int.add_mul]; simp
theorem sumN_first (n : Nat) (g : Nat → Int) : sumN (n + 1) g = g 0 + sumN n (fun i => g (i + 1)) := by
  induction n with
  | zero => show (0 : Int) + g 0 = g 0 + 0; omega
  | succ n ih =>
    show sumN (n + 1) g + g (n + 1) = g 0 + (sumN n (fun i => g (i + 1)) + g (n + 1))
    rw [ih]
    omega
theorem sumN_shift {n : Nat} {g : Nat → Int} (per : g n = g 0) : sumN n (fun i => g (i + 1)) = sumN n g := by
  have a := sumN_first n g
  have b : sumN (n + 1) g = sumN n g + g n := rfl
  omega
theorem sumN_shifts {n : Nat} {g : Nat → Int} (per : ∀ i, g (i + n) = g i) (s : Nat) : sumN n (fun i => g (i + s)) = sumN n g := by
  induction s with
  | zero => rfl
  | succ s ih =>
    rw [← ih, ← sumN_shift (g := fun i => g (i + s)) (by show g (n + s) = g (0 + s); rw [Nat.add_comm n s, per, Nat.zero_add])]
    exact sumN_congr fun i _ => by show g (i + (s + 1)) = g (i + 1 + s); rw [show i + (s + 1) = i + 1 + s by omega]
theorem sumL_append (a b : List Int) : sumL (a ++ b) = sumL a + sumL b := by
  induction a with
  | nil => show sumL b = 0 + sumL b; omega
  | cons x r ih => show x + sumL (r ++ b) = x + sumL r + sumL b; rw [ih]; omega
theorem sumL_N : ∀ l : List Int, sumL l = sumN l.length (fun i => l.getD i 0) := by
  intro l
  induction l with
  | nil => rfl
  | cons x r ih =>
    rw [sumL_cons, List.length_cons, sumN_first, ih]
    rfl
theorem sumL_cy (l : List Int) : sumL l = sumN l.length (cy l) := by
  rw [sumL_N]
  exact sumN_congr fun i h => (cy_lt h).symm
def dist (n a i : Nat) : Nat := (i + (n - a)) % n
theorem dist_lt {n a i : Nat} (h : 0 < n) : dist n a i < n := Nat.mod_lt _ h
theorem dist_succ {n a i : Nat} (h : 0 < n) : dist n a (i + 1) = if dist n a i + 1 = n then 0 else dist n a i + 1 := by
  unfold dist
  have lt := Nat.mod_lt (i + (n - a)) h
  have e : (i + 1 + (n - a)) % n = ((i + (n - a)) % n + 1) % n := by
    rw [show i + 1 + (n - a) = (i + (n - a)) + 1 by omega]
    rw [Nat.add_mod]; simp
  rw [e]
  split
  · rename_i q; rw [q, Nat.mod_self]
  · exact Nat.mod_eq_of_lt (by omega)
theorem dist_add {n a k : Nat} (ha : a < n) (hk : k < n) : dist n a (a + k) = k := by
  unfold dist
  rw [show a + k + (n - a) = k + n by omega, Nat.add_mod_right, Nat.mod_eq_of_lt hk]
theorem dist_per {n a i : Nat} : dist n a (i + n) = dist n a i := by
  unfold dist
  rw [show i + n + (n - a) = i + (n - a) + n by omega, Nat.add_mod_right]
theorem dist_zero {n a i : Nat} (ha : a < n) (hi : i < n) : dist n a i = 0 ↔ i = a := by
  unfold dist
  constructor
  · intro h
    have h' := Nat.dvd_of_mod_eq_zero h
    obtain ⟨m, hm⟩ := h'
    have : m = 1 := by
      rcases Nat.lt_or_ge m 2 with q | q
      · rcases Nat.eq_zero_or_pos m with z | z
        · subst z; omega
        · omega
      · have : n * 2 ≤ n * m := Nat.mul_le_mul_left n q
        omega
    subst this
    omega
  · intro h
    subst h
    rw [show i + (n - i) = n by omega, Nat.mod_self]
theorem dist_eq {n a i k : Nat} (ha : a < n) (hi : i < n) (hk : k < n) : dist n a i = k ↔ i = (a + k) % n := by
  unfold dist
  rcases Nat.lt_or_ge i a with q | q
  · rw [show i + (n - a) = n - a + i by omega, Nat.mod_eq_of_lt (by omega)]
    constructor
    · intro h
      rw [show a + k = i + n by omega, Nat.add_mod_right, Nat.mod_eq_of_lt hi]
    · intro h
      rcases Nat.lt_or_ge (a + k) n with w | w
      · rw [Nat.mod_eq_of_lt w] at h; omega
      · rw [show a + k = (a + k - n) + n by omega, Nat.add_mod_right, Nat.mod_eq_of_lt (by omega)] at h; omega
  · rw [show i + (n - a) = (i - a) + n by omega, Nat.add_mod_right, Nat.mod_eq_of_lt (by omega)]
    constructor
    · intro h
      rw [show a + k = i by omega, Nat.mod_eq_of_lt hi]
    · intro h
      rcases Nat.lt_or_ge (a + k) n with w | w
      · rw [Nat.mod_eq_of_lt w] at h; omega
      · rw [show a + k = (a + k - n) + n by omega, Nat.add_mod_right, Nat.mod_eq_of_lt (by omega)] at h; omega
def tk (c f : Nat → Int) (i : Nat) : Prop := 0 < f i + c (i + 1)
def addC (n a : Nat) (c : Nat → Int) : Nat → Int := fun i => c i + if dist n a i = 0 then 1 else 0
def addF (n a L : Nat) (f : Nat → Int) : Nat → Int := fun i => f i + if dist n a i < L then 1 else 0
theorem Flow.at_ {n : Nat} {c f : Nat → Int} (F : Flow n c f) {i : Nat} (h : tk c f i) : f (i + 1) = f i + c (i + 1) - 1 := by
  unfold tk at h
  rw [F.rec_]
  unfold step
  split <;> omega
theorem Flow.off {n : Nat} {c f : Nat → Int} (F : Flow n c f) {i : Nat} (h : ¬ tk c f i) : f (i + 1) = 0 := by
  unfold tk at h
  rw [F.rec_]
  unfold step
  split <;> omega
structure Passed (n a L : Nat) (c f : Nat → Int) : Prop where
  ha : a < n
  lt : L < n
  yes : ∀ i, dist n a (i + 1) < L → tk c f i
  no : ∀ i, dist n a (i + 1) = L → ¬ tk c f i
theorem Flow.more {n a L : Nat} {c f : Nat → Int} (F : Flow n c f) (c0 : ∀ i, 0 ≤ c i) (P : Passed n a L c f) : Flow n (addC n a c) (addF n a L f) := by
  have n0 : 0 < n := Nat.lt_of_le_of_lt (Nat.zero_le _) P.ha
  refine ⟨fun i => ?_, fun i => ?_, fun i => ?_, ?_⟩
  · unfold addF; rw [F.per, dist_per]
  · unfold addF; have := F.nn i; split <;> omega
  · unfold addF addC
    have ds := dist_succ (n := n) (a := a) (i := i) n0
    have lt0 := dist_lt (n := n) (a := a) (i := i) n0
    have ci := c0 (i + 1)
    have fi := F.nn i
    rcases Nat.lt_trichotomy (dist n a (i + 1)) L with q | q | q
    · have t := P.yes i q
      have e := F.at_ t
      unfold tk at t
      unfold step
      by_cases z : dist n a i + 1 = n
      · rw [if_pos z] at ds
        rw [if_pos q, e, if_neg (show ¬ dist n a i < L by have := P.lt; omega), if_pos ds]
        split <;> omega
      · rw [if_neg z] at ds
        rw [if_pos q, e, if_pos (show dist n a i < L by omega), if_neg (show ¬ dist n a (i + 1) = 0 by omega)]
        split <;> omega
    · have t := P.no i q
      have e := F.off t
      unfold tk at t
      unfold step
      by_cases z : dist n a i + 1 = n
      · rw [if_pos z] at ds
        rw [if_neg (show ¬ dist n a (i + 1) < L by omega), e, if_neg (show ¬ dist n a i < L by have := P.lt; omega), if_pos ds]
        split <;> omega
      · rw [if_neg z] at ds
        rw [if_neg (show ¬ dist n a (i + 1) < L by omega), e, if_pos (show dist n a i < L by omega), if_neg (show ¬ dist n a (i + 1) = 0 by omega)]
        split <;> omega
    · have z : ¬ dist n a i + 1 = n := fun z => by rw [if_pos z] at ds; omega
      rw [if_neg z] at ds
      rw [if_neg (show ¬ dist n a (i + 1) < L by omega), if_neg (show ¬ dist n a i < L by omega), if_neg (show ¬ dist n a (i + 1) = 0 by omega), F.rec_]
      simp
  · refine ⟨a + L + n, ?_⟩
    have e : a + L + n = (a + L + (n - 1)) + 1 := by omega
    have d : dist n a ((a + L + (n - 1)) + 1) = L := by rw [← e, dist_per, dist_add P.ha P.lt]
    unfold addF
    rw [e, d, F.off (P.no _ d), if_neg (Nat.lt_irrefl _)]
    rfl
theorem tk_more {n a L : Nat} {c f : Nat → Int} (F : Flow n c f) (c0 : ∀ i, 0 ≤ c i) (P : Passed n a L c f) (i : Nat) : tk (addC n a c) (addF n a L f) i ↔ tk c f i ∨ dist n a (i + 1) = L := by
  have n0 : 0 < n := Nat.lt_of_le_of_lt (Nat.zero_le _) P.ha
  have ds := dist_succ (n := n) (a := a) (i := i) n0
  have lt0 := dist_lt (n := n) (a := a) (i := i) n0
  have ci := c0 (i + 1)
  have fi := F.nn i
  rcases Nat.lt_trichotomy (dist n a (i + 1)) L with q | q | q
  · have t := P.yes i q
    refine ⟨fun _ => .inl t, fun _ => ?_⟩
    unfold tk at t ⊢
    unfold addC addF
    split <;> split <;> omega
  · refine ⟨fun _ => .inr q, fun _ => ?_⟩
    unfold tk addC addF
    by_cases z : dist n a i + 1 = n
    · rw [if_pos z] at ds
      rw [if_pos ds]
      split <;> omega
    · rw [if_neg z] at ds
      rw [if_pos (show dist n a i < L by omega)]
      split <;> omega
  · have z : ¬ dist n a i + 1 = n := fun z => by rw [if_pos z] at ds; omega
    rw [if_neg z] at ds
    unfold tk addC addF
    rw [if_neg (show ¬ dist n a i < L by omega), if_neg (show ¬ dist n a (i + 1) = 0 by omega)]
    constructor
    · intro h; left; omega
    · rintro (h | h)
      · omega
      · omega
theorem Flow.room {n : Nat} {c f : Nat → Int} (F : Flow n c f) (cp : ∀ i, c (i + n) = c i) (n0 : 0 < n) (h : sumN n c < n) : ∃ i, i < n ∧ ¬ tk c f i := by
  apply Classical.byContradiction
  intro no
  have all : ∀ i, i < n → tk c f i := fun i hi => Classical.byContradiction fun q => no ⟨i, hi, q⟩
  have tel : ∀ m, m ≤ n → sumN m (fun i => c (i + 1)) = f m - f 0 + m := by
    intro m
    induction m with
    | zero => intro _; show (0 : Int) = f 0 - f 0 + ((0 : Nat) : Int); omega
    | succ m ih =>
      intro hm
      show sumN m (fun i => c (i + 1)) + c (m + 1) = _
      rw [ih (by omega), F.at_ (all m (by omega))]
      omega
  have a := tel n (Nat.le_refl n)
  have b := sumN_shift (n := n) (g := c) (by have := cp 0; rw [Nat.zero_add] at this; exact this)
  have p := F.per 0
  rw [Nat.zero_add] at p
  omega
theorem sum_addF {n a L : Nat} {f : Nat → Int} (ha : a < n) (hL : L ≤ n) : sumN n (addF n a L f) = sumN n f + L := by
  unfold addF
  rw [sumN_add]
  have n0 : 0 < n := by omega
  have e : sumN n (fun i => if dist n a i < L then (1 : Int) else 0) = sumN n (fun i => if i % n < L then (1 : Int) else 0) :=
    sumN_shifts (g := fun i => if i % n < L then (1 : Int) else 0) (fun i => by simp only [Nat.add_mod_right]) (n - a)
  have cnt : ∀ m, m ≤ n → sumN m (fun i => if i % n < L then (1 : Int) else 0) = ((min m L : Nat) : Int) := by
    intro m
    induction m with
    | zero => intro _; simp [sumN]
    | succ m ih =>
      intro hm
      show sumN m _ + _ = _
      rw [ih (by omega)]
      simp only [Nat.mod_eq_of_lt (show m < n by omega)]
      split <;> omega
  rw [e, cnt n (Nat.le_refl n), Nat.min_eq_right hL]
end ML
namespace ML
end ML
namespace DL
open PySem PySem.Spec PyProof.Rows L2 LamX PySem.W SL
theorem for_list {α : Type} {I : DIt} {g : DTG} {F : DTS} {E : DEnds} {b : DSt} (enc : α → D) (W : List α → DEnv → DSt → Prop)
    (turn : ∀ x xs r st (N : DEnv → DSt → Prop), (∀ r st, Wk b (W xs) r st → N r st) → W (x :: xs) r st → okI I st (g (enc x) r st fun r1 st1 => F { nx := N, rt := E.rt, bk := E.nx, ct := N } r1 st1)) (done : ∀ r st, W [] r st → okI I st (E.nx r st)) :
    ∀ (items : List α) (r : DEnv) (st : DSt), W items r st → forL I g F E b (items.map enc) r st
  | [], r, st, h => done r st h
  | d :: ds, r, st, h => by
    refine turn d ds r st _ (fun r st w => ?_) h
    rcases w with w | ⟨r', n, h1, h2, h3, h4, h5, w⟩
    · exact .inl (for_list enc W turn done ds r st w)
    · exact .inr ⟨r', n, h1, h2, h3, h4, h5, for_list enc W turn done ds r' _ w⟩
def pairD (p : Int × Int) : D := .tup [.int p.1, .int p.2]
def Runs (rs : List (Int × Int)) (d : D) : Prop := d = .lst (rs.map pairD) ∨ d = .tup (rs.map pairD)
theorem Runs.it {rs : List (Int × Int)} {d : D} (h : Runs rs d) (st : DSt) : itOf st d = some ⟨rs.map pairD, none⟩ := by rcases h with rfl | rfl <;> rfl
theorem Runs.clo {rs : List (Int × Int)} {d : D} (h : Runs rs d) (n : Nat) : DL.clo n d = true := by
  have z : ∀ rs : List (Int × Int), clos n (rs.map pairD) = true := by
    intro rs
    induction rs with
    | nil => rfl
    | cons p r ih => rw [List.map_cons]; simp [clos, DL.clo, pairD, ih]
  rcases h with rfl | rfl <;> simp only [DL.clo] <;> exact z rs
end DL
namespace DL
open PySem PySem.Spec PyProof.Rows L2 LamX PySem.W SL
structure Cnt (c : List Int) : Prop where
  ne : c ≠ []
  few : c.length ≤ 900
  nn : ∀ x ∈ c, 0 ≤ x
  room : ML.sumL c ≤ c.length
theorem Cnt.pos {c : List Int} (h : Cnt c) : 0 < c.length := List.length_pos_iff.mpr h.ne
theorem Cnt.flow {c : List Int} (h : Cnt c) : ML.Flow c.length (ML.cy c) (ML.cy (ML.flowsI c)) := ML.flowsI_flow h.ne h.room
theorem sum_mem_le : ∀ {l : List Int}, (∀ x ∈ l, 0 ≤ x) → ∀ x ∈ l, x ≤ ML.sumL l
  | y :: r, h, x, hx => by
    have s0 : 0 ≤ ML.sumL r := by
      have : ∀ {l : List Int}, (∀ x ∈ l, 0 ≤ x) → 0 ≤ ML.sumL l := by
        intro l
        induction l with
        | nil => intro _; exact Int.le_refl 0
        | cons z l ih => intro h; rw [ML.sumL_cons]; have := ih fun x hx => h x (List.mem_cons_of_mem _ hx); have := h z List.mem_cons_self; omega
      exact this fun x hx => h x (List.mem_cons_of_mem _ hx)
    rw [ML.sumL_cons]
    rcases List.mem_cons.mp hx with z | z
    · omega
    · have := sum_mem_le (fun x hx => h x (List.mem_cons_of_mem _ hx)) x z
      have := h y List.mem_cons_self
      omega
theorem Cnt.le {c : List Int} (h : Cnt c) {x : Int} (hx : x ∈ c) : x ≤ c.length := Int.le_trans (sum_mem_le h.nn x hx) h.room
theorem row_at {xs : List Int} {s : Nat} (h : s < xs.length) : atI (xs.map D.int) (s : Int) = some (.int (xs.getD s 0)) := by
  refine atI_nat ?_
  rw [List.getElem?_map, List.getElem?_eq_getElem h, List.getD_eq_getElem?_getD, List.getElem?_eq_getElem h]
  rfl
def isTk (c : List Int) (s : Nat) : Bool := decide (0 < ML.cy (ML.flowsI c) (s + (c.length - 1)) + c.getD s 0)
def takenI (c : List Int) : List Int := ((List.range c.length).filter (isTk c)).map fun s : Nat => (s : Int)
theorem lc_rngIf {tt : DTT} {te : DTE} {r : DEnv} {Q : List D → DSt → Prop} {st : DSt} {xs : List D} {n i : Nat} (p : Nat → Bool) (h : Nat → D) (ht : ∀ k : Nat, k < n → EvT tt (r.set i (some (.int (k : Nat)))) st (p k)) (he : ∀ k : Nat, k < n → p k = true → Ev te (r.set i (some (.int (k : Nat)))) st (h k))
    (q : Q (((List.range n).filter p).map h) st) : compL ⟨xs, none⟩ (gNm i) tt te r Q (rgD 0 n) [] st := by
  refine lc_if (fun d => match d with | .int i => p i.toNat | _ => false) (fun d => match d with | .int i => h i.toNat | _ => .non) (fun d hd => ?_) (fun d hd hp => ?_) ?_
  · obtain ⟨k, lt, rfl⟩ := rgD_mem hd
    rw [Int.zero_add]
    exact ht k lt
  · obtain ⟨k, lt, rfl⟩ := rgD_mem hd
    rw [Int.zero_add] at hp ⊢
    exact he k lt hp
  · rw [rgD0, List.filter_map, List.map_map]
    exact q
def waitsI (c : List Int) : List Int := (List.range c.length).flatMap fun s => (List.range (c.getD s 0).toNat).map fun k : Nat => ML.cy (ML.flowsI c) (s + (c.length - 1)) + (k : Int)
def sqSum (l : List Int) : Int := ML.sumL (l.map fun x => x * x)
end DL
namespace DL
open PySem PySem.Spec PyProof.Rows L2 LamX PySem.W SL
section
variable {st : DSt} {p : Nat} {o o2 : O} {junk : List O} {x y z : O}
theorem pot_app (lt : p < st.length) : (st.set p o ++ junk).set p o2 = st.set p o2 ++ junk := by
  rw [List.set_append_left _ _ (by rw [List.length_set]; exact lt), List.set_set]
theorem pot_at {k : Nat} (lt : p < st.length) (h : PotO k o) : Pot k p (st.set p o ++ junk) := (Pot.set lt h).app
theorem own0 : (st.set p o ++ x :: junk)[st.length]? = some x := by
  rw [List.getElem?_append_right (by rw [List.length_set]; exact Nat.le_refl _), List.length_set, Nat.sub_self]
  rfl
theorem put0 : (st.set p o ++ x :: junk).set st.length y = st.set p o ++ y :: junk := by
  rw [List.set_append_right _ _ (by rw [List.length_set]; exact Nat.le_refl _), List.length_set, Nat.sub_self]
  rfl
theorem ownA : (st ++ x :: junk)[st.length]? = some x := by simp
theorem ownB : (st ++ x :: y :: junk)[st.length + 1]? = some y := by
  rw [List.getElem?_append_right (by omega), show st.length + 1 - st.length = 1 by omega]
  rfl
theorem putA : (st ++ x :: junk).set st.length y = st ++ y :: junk := by simp
theorem putB {w : O} : (st ++ x :: y :: junk).set (st.length + 1) w = st ++ x :: w :: junk := by
  rw [List.set_append_right _ _ (by omega), show st.length + 1 - st.length = 1 by omega]
  rfl
end
theorem ixN_lt {n j : Nat} (h : j < n) : ixN n (j : Int) = some j := by
  unfold ixN
  rw [if_pos (by omega), if_pos (by omega)]
  simp
theorem take_ev {p : Nat} {z : Int} {n : Nat} {st : DSt} {Q : DK} (pot : Pot (n + 1) p st) (z0 : 0 < z) (z1 : z ≤ 1000) (q : ∀ (r : Nat) (o : O), (r : Int) < z → PotO n o → Q (.int r) (st.set p o)) : g_take [.ref p, .int z] st Q :=
  ⟨p, z, n, rfl, pot, z0, z1, fun r o r0 r1 po => by
    obtain ⟨k, rfl⟩ := Int.eq_ofNat_of_zero_le r0
    exact q k o r1 po⟩
theorem sum_set {l : List Int} {i : Nat} (h : i < l.length) (x : Int) : ML.sumL (l.set i x) = ML.sumL l - l.getD i 0 + x := by
  induction l generalizing i with
  | nil => cases h
  | cons y r ih =>
    cases i with
    | zero => show x + ML.sumL r = y + ML.sumL r - y + x; omega
    | succ i =>
      show y + ML.sumL (r.set i x) = y + ML.sumL r - r.getD i 0 + x
      rw [ih (by simpa using h)]
      omega
theorem getD_mem {l : List Int} {i : Nat} (h : i < l.length) : l.getD i 0 ∈ l := by
  rw [List.getD_eq_getElem?_getD, List.getElem?_eq_getElem h]
  exact List.getElem_mem h
theorem sumL_rep (n : Nat) : ML.sumL (List.replicate n 0) = 0 := by
  induction n with
  | zero => rfl
  | succ n ih => rw [List.replicate_succ, ML.sumL_cons, ih]; rfl
theorem rep_flat {α : Type} (n : Nat) (a : α) : (List.replicate n [a]).flatten = List.replicate n a := by
  induction n with
  | zero => rfl
  | succ n ih => rw [List.replicate_succ, List.flatten_cons, ih, List.replicate_succ]; rfl
end DL
namespace DL
open PySem PySem.Spec PyProof.Rows L2 LamX PySem.W SL
def pairN (x : Nat × Nat) : D := .tup [.int (x.1 : Nat), .int (x.2 : Nat)]
def pathD (p : List (Nat × Nat)) : D := .tup (p.map pairN)
theorem clos_pairs (n : Nat) : ∀ p : List (Nat × Nat), clos n (p.map pairN) = true
  | [] => rfl
  | x :: r => by rw [List.map_cons]; simp [clos, clo, pairN, clos_pairs n r]
theorem lay_at {sl : List Int} {s : Nat} {x : Int} (h : sl[s]? = some x) : atI (sl.map D.int) (s : Int) = some (.int x) := atI_nat (by rw [List.getElem?_map, h]; rfl)
theorem At.d {sl : List Int} {s k : Nat} (h : At sl s k) : atI (sl.map D.int) (s : Int) = some (.int (k : Nat)) := lay_at h
section
variable {m n : Nat} {P : List (List Int)} {R : List (List (List Int))}
theorem Setg.p_at (S : Setg m n P R) {a : Nat} (h : a < m) : atI (P.map rowD) (a : Int) = some (.tup ((P.getD a []).map D.int)) := rows_at (by rw [S.pl]; exact h)
theorem Setg.r_at (S : Setg m n P R) {s : Nat} (h : s < n) : atI (R.map rowsD) (s : Int) = some (.tup ((R.getD s []).map rowD)) := at_map (by rw [List.getD_eq_getElem?_getD, List.getElem?_eq_getElem (by rw [S.rl]; exact h)]; rfl)
theorem Setg.t_at (S : Setg m n P R) {s k : Nat} (h : s < n) (hk : k < m) : atI ((R.getD s []).map rowD) (k : Int) = some (.tup (((R.getD s []).getD k []).map D.int)) := rows_at (by rw [(S.tb h).len]; exact hk)
theorem Setg.s_at (S : Setg m n P R) {a i : Nat} (ha : a < m) (hi : i < n) : atI ((P.getD a []).map D.int) (i : Int) = some (.int (pr P a i : Nat)) := lay_at (S.pr_at ha hi).1
theorem nin_row {st : DSt} {ns : List Int} {x : Int} {Q : DK} (q : Q (.bl (!decide (x ∈ ns))) st) : dInG true (.int x) (.tup (ns.map D.int)) st Q := by
  simp only [e_nin, e_seqT, e_onO]
  refine ⟨⟨rfl, flat_row ns⟩, ?_⟩
  have z : (ns.map D.int).any (fun y => eqF y (.int x)) = decide (x ∈ ns) := by
    rw [Bool.eq_iff_iff, List.any_eq_true, decide_eq_true_eq]
    constructor
    · rintro ⟨d, hd, e⟩
      obtain ⟨i, hi, rfl⟩ := List.mem_map.mp hd
      have e' : (i == x) = true := e
      have : i = x := by simpa using e'
      rw [← this]; exact hi
    · intro h
      exact ⟨.int x, List.mem_map.mpr ⟨x, h, rfl⟩, by show (x == x) = true; simp⟩
  rw [z]
  exact q
theorem mem_lay {sl : List Int} {a : Nat} : (a : Int) ∈ sl ↔ ∃ s, At sl s a := by
  rw [List.mem_iff_getElem?]
  rfl
def g_insert : DRs := fun ds st Q => ∃ (m n : Nat) (P : List (List Int)) (R : List (List (List Int))) (sl : List Int) (a : Nat), ds = [rowsD P, tabsD R, rowD sl, .int (a : Nat)] ∧ Setg m n P R ∧ m ≤ 60 ∧ n ≤ 60 ∧ Go m n P sl a 0 ∧ Q (.tup [rowD (ins P R sl a).1, pathD (ins P R sl a).2]) st
theorem ar_insert (ds : List D) (st : DSt) (Q : DK) (h : g_insert ds st Q) : ds.length = 4 := by
  obtain ⟨_, _, _, _, _, _, rfl, _⟩ := h
  rfl
theorem insG_len : ∀ (f : Nat) (sl : List Int) (a i : Nat) (L : List Int) (p : List (Nat × Nat)), insG P R f sl a i = some (L, p) → p.length ≤ f
  | 0, _, _, _, _, _, h => by cases h
  | f + 1, sl, a, i, L, p, h => by
    unfold insG at h
    split at h
    · split at h
      · obtain ⟨⟨L2, p2⟩, h1, h2⟩ := Option.map_eq_some_iff.mp h
        cases h2
        have := insG_len f _ _ _ _ p2 h1
        simp
        omega
      · have := insG_len f _ _ _ _ p h
        omega
    · cases h
      simp
theorem pot_le (S : Setg m n P R) {sl : List Int} (l : sl.length = n) : pot P n sl ≤ n * n := by
  unfold pot
  rw [l]
  have gen : ∀ k, ((List.range k).map fun t => wt P n t (sl.getD t (-1))).sum ≤ k * n := by
    intro k
    induction k with
    | zero => simp
    | succ k ih =>
      rw [List.range_succ, List.map_append, List.sum_append, Nat.succ_mul]
      have : wt P n k (sl.getD k (-1)) ≤ n := by unfold wt; split <;> omega
      simp only [List.map_cons, List.map_nil, List.sum_cons, List.sum_nil]
      omega
  exact gen n
set_option maxHeartbeats 4000000 in
theorem sem_insert (ds : List D) (st : DSt) (Q : DK) (h : g_insert ds st Q) : F_insert { nx := fun _ st' => Rt st Q .non st', rt := Rt st Q } (startD 8 ds) st := by
  obtain ⟨m, n, P, R, sl, a, rfl, S, m60, n60, G, q⟩ := h
  have st8 : startD 8 [rowsD P, tabsD R, rowD sl, D.int (a : Nat)] = [some (.tup (P.map rowD)), some (.tup (R.map rowsD)), some (.tup (sl.map D.int)), some (.int (a : Nat)), none, none, none, none] := rfl
  have big : (100000 : Nat) ≤ sizeLine := by decide
  have nn : n * n ≤ 60 * 60 := Nat.mul_le_mul n60 n60
  have eI := ins_eq S G
  have pl := pot_le S G.g.lay.len
  have rl := S.rl
  have n0 : 0 < n := Nat.lt_of_le_of_lt (Nat.zero_le _) G.hi
  generalize hF : pot P R.length sl + R.length + 1 = F at eI
  have F4 : F ≤ 5000 := by rw [← hF, rl]; omega
  generalize ins P R sl a = X at eI q
  obtain ⟨LL, PP⟩ := X
  have lp := insG_len F sl a 0 LL PP eI
  simp only [F_insert, st8]
  try dsimp only
  rw [e_seq]
  try simp only [e_var, e_C, e_op, e_neg, e_isN, e_notN, e_and, e_or, e_not, e_test, e_tAnd, e_tOr, e_tNot, e_tYes, e_if, e_aNil, e_aCons, e_tup, e_lst, e_lstN, e_len0, e_len1, e_len2, e_len3, e_len4, e_len5, e_cb, e_on1, e_on2, e_onI, e_onB, e_onO, e_onO0, e_onOO, e_I0, e_I, e_add, e_addT, e_addS, e_addL, e_addLR, e_addRL, e_addRR, e_mul, e_mulL, e_mulT, e_rev, e_revT, e_ix, e_eqI, e_eqS, e_eqB, e_neI, e_neS, e_neB, e_ltI, e_chain, e_len, e_abs, e_2I, e_tuple1, e_tuple2, e_tuple3, e_listT, e_listN, e_allR, e_seqT, e_seqK, e_seqL, e_isi, e_isB, e_notB, e_truth, e_next, e_drop, e_ret, e_retN, e_ifS, e_set, e_asg, e_par, e_nm, e_gsN, e_gsC, e_gTpK, e_gTpL, e_sum, e_maxL, e_minL, e_maxDef, e_int, e_intB, e_aug, e_on3, e_par3, e_newK, e_getK, e_keyI, e_keyS, e_inK, e_ninK, e_putK, e_lenK, e_lstS, e_seqX, e_gTpT, e_oN, e_oS, e_sl, e_slT, e_slL, e_finT, e_finN, e_index, e_idxT, e_idxL, e_mIx, e_ixST, e_ixSL, e_mtL, e_w, e_w1, e_w2, e_wE, e_wZ, e_itK, e_itT, e_itL, e_itT2, e_itL2, e_lc, e_for, e_wipe0, e_wipe, e_okI, e_okR, e_gSb, List.getElem?_cons_zero, List.getElem?_cons_succ, List.set_cons_zero, List.set_cons_succ]
  refine row_in ?_
  try simp only [e_var, e_C, e_op, e_neg, e_isN, e_notN, e_and, e_or, e_not, e_test, e_tAnd, e_tOr, e_tNot, e_tYes, e_if, e_aNil, e_aCons, e_tup, e_lst, e_lstN, e_len0, e_len1, e_len2, e_len3, e_len4, e_len5, e_cb, e_on1, e_on2, e_onI, e_onB, e_onO, e_onO0, e_onOO, e_I0, e_I, e_add, e_addT, e_addS, e_addL, e_addLR, e_addRL, e_addRR, e_mul, e_mulL, e_mulT, e_rev, e_revT, e_ix, e_eqI, e_eqS, e_eqB, e_neI, e_neS, e_neB, e_ltI, e_chain, e_len, e_abs, e_2I, e_tuple1, e_tuple2, e_tuple3, e_listT, e_listN, e_allR, e_seqT, e_seqK, e_seqL, e_isi, e_isB, e_notB, e_truth, e_next, e_drop, e_ret, e_retN, e_ifS, e_set, e_asg, e_par, e_nm, e_gsN, e_gsC, e_gTpK, e_gTpL, e_sum, e_maxL, e_minL, e_maxDef, e_int, e_intB, e_aug, e_on3, e_par3, e_newK, e_getK, e_keyI, e_keyS, e_inK, e_ninK, e_putK, e_lenK, e_lstS, e_seqX, e_gTpT, e_oN, e_oS, e_sl, e_slT, e_slL, e_finT, e_finN, e_index, e_idxT, e_idxL, e_mIx, e_ixST, e_ixSL, e_mtL, e_w, e_w1, e_w2, e_wE, e_wZ, e_itK, e_itT, e_itL, e_itT2, e_itL2, e_lc, e_for, e_wipe0, e_wipe, e_okI, e_okR, e_gSb, List.getElem?_cons_zero, List.getElem?_cons_succ, List.set_cons_zero, List.set_cons_succ]
  refine iteF' (decide_eq_false fun z => by obtain ⟨s, hs⟩ := mem_lay.mp z; exact G.fr s hs) ?_
  try dsimp only
  rw [e_seq]
  try simp only [e_var, e_C, e_op, e_neg, e_isN, e_notN, e_and, e_or, e_not, e_test, e_tAnd, e_tOr, e_tNot, e_tYes, e_if, e_aNil, e_aCons, e_tup, e_lst, e_lstN, e_len0, e_len1, e_len2, e_len3, e_len4, e_len5, e_cb, e_on1, e_on2, e_onI, e_onB, e_onO, e_onO0, e_onOO, e_I0, e_I, e_add, e_addT, e_addS, e_addL, e_addLR, e_addRL, e_addRR, e_mul, e_mulL, e_mulT, e_rev, e_revT, e_ix, e_eqI, e_eqS, e_eqB, e_neI, e_neS, e_neB, e_ltI, e_chain, e_len, e_abs, e_2I, e_tuple1, e_tuple2, e_tuple3, e_listT, e_listN, e_allR, e_seqT, e_seqK, e_seqL, e_isi, e_isB, e_notB, e_truth, e_next, e_drop, e_ret, e_retN, e_ifS, e_set, e_asg, e_par, e_nm, e_gsN, e_gsC, e_gTpK, e_gTpL, e_sum, e_maxL, e_minL, e_maxDef, e_int, e_intB, e_aug, e_on3, e_par3, e_newK, e_getK, e_keyI, e_keyS, e_inK, e_ninK, e_putK, e_lenK, e_lstS, e_seqX, e_gTpT, e_oN, e_oS, e_sl, e_slT, e_slL, e_finT, e_finN, e_index, e_idxT, e_idxL, e_mIx, e_ixST, e_ixSL, e_mtL, e_w, e_w1, e_w2, e_wE, e_wZ, e_itK, e_itT, e_itL, e_itT2, e_itL2, e_lc, e_for, e_wipe0, e_wipe, e_okI, e_okR, e_gSb, List.getElem?_cons_zero, List.getElem?_cons_succ, List.set_cons_zero, List.set_cons_succ]
  refine nin_row ?_
  try simp only [e_var, e_C, e_op, e_neg, e_isN, e_notN, e_and, e_or, e_not, e_test, e_tAnd, e_tOr, e_tNot, e_tYes, e_if, e_aNil, e_aCons, e_tup, e_lst, e_lstN, e_len0, e_len1, e_len2, e_len3, e_len4, e_len5, e_cb, e_on1, e_on2, e_onI, e_onB, e_onO, e_onO0, e_onOO, e_I0, e_I, e_add, e_addT, e_addS, e_addL, e_addLR, e_addRL, e_addRR, e_mul, e_mulL, e_mulT, e_rev, e_revT, e_ix, e_eqI, e_eqS, e_eqB, e_neI, e_neS, e_neB, e_ltI, e_chain, e_len, e_abs, e_2I, e_tuple1, e_tuple2, e_tuple3, e_listT, e_listN, e_allR, e_seqT, e_seqK, e_seqL, e_isi, e_isB, e_notB, e_truth, e_next, e_drop, e_ret, e_retN, e_ifS, e_set, e_asg, e_par, e_nm, e_gsN, e_gsC, e_gTpK, e_gTpL, e_sum, e_maxL, e_minL, e_maxDef, e_int, e_intB, e_aug, e_on3, e_par3, e_newK, e_getK, e_keyI, e_keyS, e_inK, e_ninK, e_putK, e_lenK, e_lstS, e_seqX, e_gTpT, e_oN, e_oS, e_sl, e_slT, e_slL, e_finT, e_finN, e_index, e_idxT, e_idxL, e_mIx, e_ixST, e_ixSL, e_mtL, e_w, e_w1, e_w2, e_wE, e_wZ, e_itK, e_itT, e_itL, e_itT2, e_itL2, e_lc, e_for, e_wipe0, e_wipe, e_okI, e_okR, e_gSb, List.getElem?_cons_zero, List.getElem?_cons_succ, List.set_cons_zero, List.set_cons_succ]
  refine iteF' ?_ ?_
  · obtain ⟨t, lt, e⟩ := G.room
    rw [decide_eq_true (List.mem_of_getElem? e)]
    rfl
  try dsimp only
  rw [e_seq]
  try simp only [e_var, e_C, e_op, e_neg, e_isN, e_notN, e_and, e_or, e_not, e_test, e_tAnd, e_tOr, e_tNot, e_tYes, e_if, e_aNil, e_aCons, e_tup, e_lst, e_lstN, e_len0, e_len1, e_len2, e_len3, e_len4, e_len5, e_cb, e_on1, e_on2, e_onI, e_onB, e_onO, e_onO0, e_onOO, e_I0, e_I, e_add, e_addT, e_addS, e_addL, e_addLR, e_addRL, e_addRR, e_mul, e_mulL, e_mulT, e_rev, e_revT, e_ix, e_eqI, e_eqS, e_eqB, e_neI, e_neS, e_neB, e_ltI, e_chain, e_len, e_abs, e_2I, e_tuple1, e_tuple2, e_tuple3, e_listT, e_listN, e_allR, e_seqT, e_seqK, e_seqL, e_isi, e_isB, e_notB, e_truth, e_next, e_drop, e_ret, e_retN, e_ifS, e_set, e_asg, e_par, e_nm, e_gsN, e_gsC, e_gTpK, e_gTpL, e_sum, e_maxL, e_minL, e_maxDef, e_int, e_intB, e_aug, e_on3, e_par3, e_newK, e_getK, e_keyI, e_keyS, e_inK, e_ninK, e_putK, e_lenK, e_lstS, e_seqX, e_gTpT, e_oN, e_oS, e_sl, e_slT, e_slL, e_finT, e_finN, e_index, e_idxT, e_idxL, e_mIx, e_ixST, e_ixSL, e_mtL, e_w, e_w1, e_w2, e_wE, e_wZ, e_itK, e_itT, e_itL, e_itT2, e_itL2, e_lc, e_for, e_wipe0, e_wipe, e_okI, e_okR, e_gSb, List.getElem?_cons_zero, List.getElem?_cons_succ, List.set_cons_zero, List.set_cons_succ]
  try dsimp only
  rw [e_seq]
  try simp only [e_var, e_C, e_op, e_neg, e_isN, e_notN, e_and, e_or, e_not, e_test, e_tAnd, e_tOr, e_tNot, e_tYes, e_if, e_aNil, e_aCons, e_tup, e_lst, e_lstN, e_len0, e_len1, e_len2, e_len3, e_len4, e_len5, e_cb, e_on1, e_on2, e_onI, e_onB, e_onO, e_onO0, e_onOO, e_I0, e_I, e_add, e_addT, e_addS, e_addL, e_addLR, e_addRL, e_addRR, e_mul, e_mulL, e_mulT, e_rev, e_revT, e_ix, e_eqI, e_eqS, e_eqB, e_neI, e_neS, e_neB, e_ltI, e_chain, e_len, e_abs, e_2I, e_tuple1, e_tuple2, e_tuple3, e_listT, e_listN, e_allR, e_seqT, e_seqK, e_seqL, e_isi, e_isB, e_notB, e_truth, e_next, e_drop, e_ret, e_retN, e_ifS, e_set, e_asg, e_par, e_nm, e_gsN, e_gsC, e_gTpK, e_gTpL, e_sum, e_maxL, e_minL, e_maxDef, e_int, e_intB, e_aug, e_on3, e_par3, e_newK, e_getK, e_keyI, e_keyS, e_inK, e_ninK, e_putK, e_lenK, e_lstS, e_seqX, e_gTpT, e_oN, e_oS, e_sl, e_slT, e_slL, e_finT, e_finN, e_index, e_idxT, e_idxL, e_mIx, e_ixST, e_ixSL, e_mtL, e_w, e_w1, e_w2, e_wE, e_wZ, e_itK, e_itT, e_itL, e_itT2, e_itL2, e_lc, e_for, e_wipe0, e_wipe, e_okI, e_okR, e_gSb, List.getElem?_cons_zero, List.getElem?_cons_succ, List.set_cons_zero, List.set_cons_succ, List.length_append]
  try dsimp only
  rw [e_seq]
  try simp only [e_var, e_C, e_op, e_neg, e_isN, e_notN, e_and, e_or, e_not, e_test, e_tAnd, e_tOr, e_tNot, e_tYes, e_if, e_aNil, e_aCons, e_tup, e_lst, e_lstN, e_len0, e_len1, e_len2, e_len3, e_len4, e_len5, e_cb, e_on1, e_on2, e_onI, e_onB, e_onO, e_onO0, e_onOO, e_I0, e_I, e_add, e_addT, e_addS, e_addL, e_addLR, e_addRL, e_addRR, e_mul, e_mulL, e_mulT, e_rev, e_revT, e_ix, e_eqI, e_eqS, e_eqB, e_neI, e_neS, e_neB, e_ltI, e_chain, e_len, e_abs, e_2I, e_tuple1, e_tuple2, e_tuple3, e_listT, e_listN, e_allR, e_seqT, e_seqK, e_seqL, e_isi, e_isB, e_notB, e_truth, e_next, e_drop, e_ret, e_retN, e_ifS, e_set, e_asg, e_par, e_nm, e_gsN, e_gsC, e_gTpK, e_gTpL, e_sum, e_maxL, e_minL, e_maxDef, e_int, e_intB, e_aug, e_on3, e_par3, e_newK, e_getK, e_keyI, e_keyS, e_inK, e_ninK, e_putK, e_lenK, e_lstS, e_seqX, e_gTpT, e_oN, e_oS, e_sl, e_slT, e_slL, e_finT, e_finN, e_index, e_idxT, e_idxL, e_mIx, e_ixST, e_ixSL, e_mtL, e_w, e_w1, e_w2, e_wE, e_wZ, e_itK, e_itT, e_itL, e_itT2, e_itL2, e_lc, e_for, e_wipe0, e_wipe, e_okI, e_okR, e_gSb, List.getElem?_cons_zero, List.getElem?_cons_succ, List.set_cons_zero, List.set_cons_succ]
  try dsimp only
  rw [e_seq]
  try simp only [e_var, e_C, e_op, e_neg, e_isN, e_notN, e_and, e_or, e_not, e_test, e_tAnd, e_tOr, e_tNot, e_tYes, e_if, e_aNil, e_aCons, e_tup, e_lst, e_lstN, e_len0, e_len1, e_len2, e_len3, e_len4, e_len5, e_cb, e_on1, e_on2, e_onI, e_onB, e_onO, e_onO0, e_onOO, e_I0, e_I, e_add, e_addT, e_addS, e_addL, e_addLR, e_addRL, e_addRR, e_mul, e_mulL, e_mulT, e_rev, e_revT, e_ix, e_eqI, e_eqS, e_eqB, e_neI, e_neS, e_neB, e_ltI, e_chain, e_len, e_abs, e_2I, e_tuple1, e_tuple2, e_tuple3, e_listT, e_listN, e_allR, e_seqT, e_seqK, e_seqL, e_isi, e_isB, e_notB, e_truth, e_next, e_drop, e_ret, e_retN, e_ifS, e_set, e_asg, e_par, e_nm, e_gsN, e_gsC, e_gTpK, e_gTpL, e_sum, e_maxL, e_minL, e_maxDef, e_int, e_intB, e_aug, e_on3, e_par3, e_newK, e_getK, e_keyI, e_keyS, e_inK, e_ninK, e_putK, e_lenK, e_lstS, e_seqX, e_gTpT, e_oN, e_oS, e_sl, e_slT, e_slL, e_finT, e_finN, e_index, e_idxT, e_idxL, e_mIx, e_ixST, e_ixSL, e_mtL, e_w, e_w1, e_w2, e_wE, e_wZ, e_itK, e_itT, e_itL, e_itT2, e_itL2, e_lc, e_for, e_wipe0, e_wipe, e_okI, e_okR, e_gSb, List.getElem?_cons_zero, List.getElem?_cons_succ, List.set_cons_zero, List.set_cons_succ, S.p_at G.ha, at0]
  have s0 := S.s_at G.ha n0
  have s0' : atI ((P.getD a []).map D.int) 0 = some (.int (pr P a 0 : Nat)) := s0
  try simp only [e_var, e_C, e_op, e_neg, e_isN, e_notN, e_and, e_or, e_not, e_test, e_tAnd, e_tOr, e_tNot, e_tYes, e_if, e_aNil, e_aCons, e_tup, e_lst, e_lstN, e_len0, e_len1, e_len2, e_len3, e_len4, e_len5, e_cb, e_on1, e_on2, e_onI, e_onB, e_onO, e_onO0, e_onOO, e_I0, e_I, e_add, e_addT, e_addS, e_addL, e_addLR, e_addRL, e_addRR, e_mul, e_mulL, e_mulT, e_rev, e_revT, e_ix, e_eqI, e_eqS, e_eqB, e_neI, e_neS, e_neB, e_ltI, e_chain, e_len, e_abs, e_2I, e_tuple1, e_tuple2, e_tuple3, e_listT, e_listN, e_allR, e_seqT, e_seqK, e_seqL, e_isi, e_isB, e_notB, e_truth, e_next, e_drop, e_ret, e_retN, e_ifS, e_set, e_asg, e_par, e_nm, e_gsN, e_gsC, e_gTpK, e_gTpL, e_sum, e_maxL, e_minL, e_maxDef, e_int, e_intB, e_aug, e_on3, e_par3, e_newK, e_getK, e_keyI, e_keyS, e_inK, e_ninK, e_putK, e_lenK, e_lstS, e_seqX, e_gTpT, e_oN, e_oS, e_sl, e_slT, e_slL, e_finT, e_finN, e_index, e_idxT, e_idxL, e_mIx, e_ixST, e_ixSL, e_mtL, e_w, e_w1, e_w2, e_wE, e_wZ, e_itK, e_itT, e_itL, e_itT2, e_itL2, e_lc, e_for, e_wipe0, e_wipe, e_okI, e_okR, e_gSb, List.getElem?_cons_zero, List.getElem?_cons_succ, List.set_cons_zero, List.set_cons_succ, s0']
  have e1 : st ++ [O.lst (sl.map D.int)] ++ [O.lst []] = st ++ [O.lst (sl.map D.int), O.lst (([] : List (Nat × Nat)).map pairN)] := by simp
  have e2 : st.length + [O.lst (sl.map D.int)].length = st.length + 1 := rfl
  rw [e1, e2]
  try dsimp only
  rw [e_seq]
  refine s_while (fun f r st' => ∃ (sl' : List Int) (b i : Nat) (pre p : List (Nat × Nat)), Go m n P sl' b i ∧ insG P R f sl' b i = some (LL, p) ∧ pre ++ p = PP ∧
      r = [some (.tup (P.map rowD)), some (.tup (R.map rowsD)), some (.tup (sl.map D.int)), some (.int (a : Nat)), some (.ref st.length), some (.ref (st.length + 1)), some (.int (b : Nat)), some (.int (pr P b i : Nat))] ∧ st' = st ++ [O.lst (sl'.map D.int), O.lst (pre.map pairN)]) F ⟨sl, a, 0, [], PP, G, eI, rfl, rfl, rfl⟩ ?_
  rintro f r st' N hN ⟨sl', b, i, pre, p, G', eG, eP, rfl, rfl⟩
  have ls := (S.pr_at G'.ha G'.hi).2
  have lsl : pr P b i < sl'.length := by rw [G'.g.lay.len]; exact ls
  have lpre : pre.length ≤ 5000 := by
    have := congrArg List.length eP
    rw [List.length_append] at this
    omega
  cases f with
  | zero => cases eG
  | succ f =>
    rcases G'.g.lay.either ls with e | ⟨k, tk⟩
    · rw [insG_free e] at eG
      cases eG
      try simp only [e_var, e_C, e_op, e_neg, e_isN, e_notN, e_and, e_or, e_not, e_test, e_tAnd, e_tOr, e_tNot, e_tYes, e_if, e_aNil, e_aCons, e_tup, e_lst, e_lstN, e_len0, e_len1, e_len2, e_len3, e_len4, e_len5, e_cb, e_on1, e_on2, e_onI, e_onB, e_onO, e_onO0, e_onOO, e_I0, e_I, e_add, e_addT, e_addS, e_addL, e_addLR, e_addRL, e_addRR, e_mul, e_mulL, e_mulT, e_rev, e_revT, e_ix, e_eqI, e_eqS, e_eqB, e_neI, e_neS, e_neB, e_ltI, e_chain, e_len, e_abs, e_2I, e_tuple1, e_tuple2, e_tuple3, e_listT, e_listN, e_allR, e_seqT, e_seqK, e_seqL, e_isi, e_isB, e_notB, e_truth, e_next, e_drop, e_ret, e_retN, e_ifS, e_set, e_asg, e_par, e_nm, e_gsN, e_gsC, e_gTpK, e_gTpL, e_sum, e_maxL, e_minL, e_maxDef, e_int, e_intB, e_aug, e_on3, e_par3, e_newK, e_getK, e_keyI, e_keyS, e_inK, e_ninK, e_putK, e_lenK, e_lstS, e_seqX, e_gTpT, e_oN, e_oS, e_sl, e_slT, e_slL, e_finT, e_finN, e_index, e_idxT, e_idxL, e_mIx, e_ixST, e_ixSL, e_mtL, e_w, e_w1, e_w2, e_wE, e_wZ, e_itK, e_itT, e_itL, e_itT2, e_itL2, e_lc, e_for, e_wipe0, e_wipe, e_okI, e_okR, e_gSb, List.getElem?_cons_zero, List.getElem?_cons_succ, List.set_cons_zero, List.set_cons_succ, seq_ref ownA, lay_at e, decide_true, Bool.not_true]
      refine iteF ?_
      try dsimp only
      rw [e_seq]
      try simp only [e_var, e_C, e_op, e_neg, e_isN, e_notN, e_and, e_or, e_not, e_test, e_tAnd, e_tOr, e_tNot, e_tYes, e_if, e_aNil, e_aCons, e_tup, e_lst, e_lstN, e_len0, e_len1, e_len2, e_len3, e_len4, e_len5, e_cb, e_on1, e_on2, e_onI, e_onB, e_onO, e_onO0, e_onOO, e_I0, e_I, e_add, e_addT, e_addS, e_addL, e_addLR, e_addRL, e_addRR, e_mul, e_mulL, e_mulT, e_rev, e_revT, e_ix, e_eqI, e_eqS, e_eqB, e_neI, e_neS, e_neB, e_ltI, e_chain, e_len, e_abs, e_2I, e_tuple1, e_tuple2, e_tuple3, e_listT, e_listN, e_allR, e_seqT, e_seqK, e_seqL, e_isi, e_isB, e_notB, e_truth, e_next, e_drop, e_ret, e_retN, e_ifS, e_set, e_asg, e_par, e_nm, e_gsN, e_gsC, e_gTpK, e_gTpL, e_sum, e_maxL, e_minL, e_maxDef, e_int, e_intB, e_aug, e_on3, e_par3, e_newK, e_getK, e_keyI, e_keyS, e_inK, e_ninK, e_putK, e_lenK, e_lstS, e_seqX, e_gTpT, e_oN, e_oS, e_sl, e_slT, e_slL, e_finT, e_finN, e_index, e_idxT, e_idxL, e_mIx, e_ixST, e_ixSL, e_mtL, e_w, e_w1, e_w2, e_wE, e_wZ, e_itK, e_itT, e_itL, e_itT2, e_itL2, e_lc, e_for, e_wipe0, e_wipe, e_okI, e_okR, e_gSb, List.getElem?_cons_zero, List.getElem?_cons_succ, List.set_cons_zero, List.set_cons_succ, seq_ref ownA, setS_ref ownA, List.length_map, ixN_lt lsl, putA]
      try dsimp only
      rw [e_seq]
      try simp only [e_var, e_C, e_op, e_neg, e_isN, e_notN, e_and, e_or, e_not, e_test, e_tAnd, e_tOr, e_tNot, e_tYes, e_if, e_aNil, e_aCons, e_tup, e_lst, e_lstN, e_len0, e_len1, e_len2, e_len3, e_len4, e_len5, e_cb, e_on1, e_on2, e_onI, e_onB, e_onO, e_onO0, e_onOO, e_I0, e_I, e_add, e_addT, e_addS, e_addL, e_addLR, e_addRL, e_addRR, e_mul, e_mulL, e_mulT, e_rev, e_revT, e_ix, e_eqI, e_eqS, e_eqB, e_neI, e_neS, e_neB, e_ltI, e_chain, e_len, e_abs, e_2I, e_tuple1, e_tuple2, e_tuple3, e_listT, e_listN, e_allR, e_seqT, e_seqK, e_seqL, e_isi, e_isB, e_notB, e_truth, e_next, e_drop, e_ret, e_retN, e_ifS, e_set, e_asg, e_par, e_nm, e_gsN, e_gsC, e_gTpK, e_gTpL, e_sum, e_maxL, e_minL, e_maxDef, e_int, e_intB, e_aug, e_on3, e_par3, e_newK, e_getK, e_keyI, e_keyS, e_inK, e_ninK, e_putK, e_lenK, e_lstS, e_seqX, e_gTpT, e_oN, e_oS, e_sl, e_slT, e_slL, e_finT, e_finN, e_index, e_idxT, e_idxL, e_mIx, e_ixST, e_ixSL, e_mtL, e_w, e_w1, e_w2, e_wE, e_wZ, e_itK, e_itT, e_itL, e_itT2, e_itL2, e_lc, e_for, e_wipe0, e_wipe, e_okI, e_okR, e_gSb, List.getElem?_cons_zero, List.getElem?_cons_succ, List.set_cons_zero, List.set_cons_succ]
      refine ⟨by unfold LstD; simp only [ownB], append_ref ownB (by rw [List.length_map]; omega) ?_⟩
      rw [putB]
      try simp only [e_var, e_C, e_op, e_neg, e_isN, e_notN, e_and, e_or, e_not, e_test, e_tAnd, e_tOr, e_tNot, e_tYes, e_if, e_aNil, e_aCons, e_tup, e_lst, e_lstN, e_len0, e_len1, e_len2, e_len3, e_len4, e_len5, e_cb, e_on1, e_on2, e_onI, e_onB, e_onO, e_onO0, e_onOO, e_I0, e_I, e_add, e_addT, e_addS, e_addL, e_addLR, e_addRL, e_addRR, e_mul, e_mulL, e_mulT, e_rev, e_revT, e_ix, e_eqI, e_eqS, e_eqB, e_neI, e_neS, e_neB, e_ltI, e_chain, e_len, e_abs, e_2I, e_tuple1, e_tuple2, e_tuple3, e_listT, e_listN, e_allR, e_seqT, e_seqK, e_seqL, e_isi, e_isB, e_notB, e_truth, e_next, e_drop, e_ret, e_retN, e_ifS, e_set, e_asg, e_par, e_nm, e_gsN, e_gsC, e_gTpK, e_gTpL, e_sum, e_maxL, e_minL, e_maxDef, e_int, e_intB, e_aug, e_on3, e_par3, e_newK, e_getK, e_keyI, e_keyS, e_inK, e_ninK, e_putK, e_lenK, e_lstS, e_seqX, e_gTpT, e_oN, e_oS, e_sl, e_slT, e_slL, e_finT, e_finN, e_index, e_idxT, e_idxL, e_mIx, e_ixST, e_ixSL, e_mtL, e_w, e_w1, e_w2, e_wE, e_wZ, e_itK, e_itT, e_itL, e_itT2, e_itL2, e_lc, e_for, e_wipe0, e_wipe, e_okI, e_okR, e_gSb, List.getElem?_cons_zero, List.getElem?_cons_succ, List.set_cons_zero, List.set_cons_succ, seq_ref ownA, seq_ref ownB]
      refine rt_drop rfl ?_ (fun i o h => .inl h) ?_
      · have z1 := clos_ints st.length (sl'.set (pr P b i) (b : Int))
        rw [List.map_set] at z1
        have z2 := clos_pairs st.length PP
        rw [← eP, List.map_append] at z2
        simp only [DL.clo, clos, Bool.and_true]
        rw [z1]
        exact z2
      · have z := q
        rw [← eP] at z
        unfold rowD pathD at z
        rw [List.map_set, List.map_append] at z
        exact z
    · have hk := (G'.g.lay.key tk).1
      rw [insG_taken tk] at eG
      have ne : k ≠ b := fun z => by subst z; exact G'.fr _ tk
      have bn := S.bt_not ls hk G'.ha ne
      try simp only [e_var, e_C, e_op, e_neg, e_isN, e_notN, e_and, e_or, e_not, e_test, e_tAnd, e_tOr, e_tNot, e_tYes, e_if, e_aNil, e_aCons, e_tup, e_lst, e_lstN, e_len0, e_len1, e_len2, e_len3, e_len4, e_len5, e_cb, e_on1, e_on2, e_onI, e_onB, e_onO, e_onO0, e_onOO, e_I0, e_I, e_add, e_addT, e_addS, e_addL, e_addLR, e_addRL, e_addRR, e_mul, e_mulL, e_mulT, e_rev, e_revT, e_ix, e_eqI, e_eqS, e_eqB, e_neI, e_neS, e_neB, e_ltI, e_chain, e_len, e_abs, e_2I, e_tuple1, e_tuple2, e_tuple3, e_listT, e_listN, e_allR, e_seqT, e_seqK, e_seqL, e_isi, e_isB, e_notB, e_truth, e_next, e_drop, e_ret, e_retN, e_ifS, e_set, e_asg, e_par, e_nm, e_gsN, e_gsC, e_gTpK, e_gTpL, e_sum, e_maxL, e_minL, e_maxDef, e_int, e_intB, e_aug, e_on3, e_par3, e_newK, e_getK, e_keyI, e_keyS, e_inK, e_ninK, e_putK, e_lenK, e_lstS, e_seqX, e_gTpT, e_oN, e_oS, e_sl, e_slT, e_slL, e_finT, e_finN, e_index, e_idxT, e_idxL, e_mIx, e_ixST, e_ixSL, e_mtL, e_w, e_w1, e_w2, e_wE, e_wZ, e_itK, e_itT, e_itL, e_itT2, e_itL2, e_lc, e_for, e_wipe0, e_wipe, e_okI, e_okR, e_gSb, List.getElem?_cons_zero, List.getElem?_cons_succ, List.set_cons_zero, List.set_cons_succ, seq_ref ownA, tk.d, S.r_at ls, S.t_at ls hk]
      refine iteT' (by rw [Bool.not_eq_true', decide_eq_false_iff_not]; omega) ?_
      try dsimp only
      rw [e_seq]
      try simp only [e_var, e_C, e_op, e_neg, e_isN, e_notN, e_and, e_or, e_not, e_test, e_tAnd, e_tOr, e_tNot, e_tYes, e_if, e_aNil, e_aCons, e_tup, e_lst, e_lstN, e_len0, e_len1, e_len2, e_len3, e_len4, e_len5, e_cb, e_on1, e_on2, e_onI, e_onB, e_onO, e_onO0, e_onOO, e_I0, e_I, e_add, e_addT, e_addS, e_addL, e_addLR, e_addRL, e_addRR, e_mul, e_mulL, e_mulT, e_rev, e_revT, e_ix, e_eqI, e_eqS, e_eqB, e_neI, e_neS, e_neB, e_ltI, e_chain, e_len, e_abs, e_2I, e_tuple1, e_tuple2, e_tuple3, e_listT, e_listN, e_allR, e_seqT, e_seqK, e_seqL, e_isi, e_isB, e_notB, e_truth, e_next, e_drop, e_ret, e_retN, e_ifS, e_set, e_asg, e_par, e_nm, e_gsN, e_gsC, e_gTpK, e_gTpL, e_sum, e_maxL, e_minL, e_maxDef, e_int, e_intB, e_aug, e_on3, e_par3, e_newK, e_getK, e_keyI, e_keyS, e_inK, e_ninK, e_putK, e_lenK, e_lstS, e_seqX, e_gTpT, e_oN, e_oS, e_sl, e_slT, e_slL, e_finT, e_finN, e_index, e_idxT, e_idxL, e_mIx, e_ixST, e_ixSL, e_mtL, e_w, e_w1, e_w2, e_wE, e_wZ, e_itK, e_itT, e_itL, e_itT2, e_itL2, e_lc, e_for, e_wipe0, e_wipe, e_okI, e_okR, e_gSb, List.getElem?_cons_zero, List.getElem?_cons_succ, List.set_cons_zero, List.set_cons_succ, seq_ref ownA, tk.d, S.r_at ls, S.t_at ls hk]
      refine nin_row ?_
      have eb : (!decide ((b : Int) ∈ (R.getD (pr P b i) []).getD k [])) = bt R (pr P b i) b k := by
        show (!bt R (pr P b i) k b) = _
        rw [bn, Bool.not_not]
      rw [eb]
      try simp only [e_var, e_C, e_op, e_neg, e_isN, e_notN, e_and, e_or, e_not, e_test, e_tAnd, e_tOr, e_tNot, e_tYes, e_if, e_aNil, e_aCons, e_tup, e_lst, e_lstN, e_len0, e_len1, e_len2, e_len3, e_len4, e_len5, e_cb, e_on1, e_on2, e_onI, e_onB, e_onO, e_onO0, e_onOO, e_I0, e_I, e_add, e_addT, e_addS, e_addL, e_addLR, e_addRL, e_addRR, e_mul, e_mulL, e_mulT, e_rev, e_revT, e_ix, e_eqI, e_eqS, e_eqB, e_neI, e_neS, e_neB, e_ltI, e_chain, e_len, e_abs, e_2I, e_tuple1, e_tuple2, e_tuple3, e_listT, e_listN, e_allR, e_seqT, e_seqK, e_seqL, e_isi, e_isB, e_notB, e_truth, e_next, e_drop, e_ret, e_retN, e_ifS, e_set, e_asg, e_par, e_nm, e_gsN, e_gsC, e_gTpK, e_gTpL, e_sum, e_maxL, e_minL, e_maxDef, e_int, e_intB, e_aug, e_on3, e_par3, e_newK, e_getK, e_keyI, e_keyS, e_inK, e_ninK, e_putK, e_lenK, e_lstS, e_seqX, e_gTpT, e_oN, e_oS, e_sl, e_slT, e_slL, e_finT, e_finN, e_index, e_idxT, e_idxL, e_mIx, e_ixST, e_ixSL, e_mtL, e_w, e_w1, e_w2, e_wE, e_wZ, e_itK, e_itT, e_itL, e_itT2, e_itL2, e_lc, e_for, e_wipe0, e_wipe, e_okI, e_okR, e_gSb, List.getElem?_cons_zero, List.getElem?_cons_succ, List.set_cons_zero, List.set_cons_succ]
      by_cases bb : bt R (pr P b i) b k = true
      · rw [if_pos bb] at eG
        obtain ⟨⟨L2, p2⟩, h2, h3⟩ := Option.map_eq_some_iff.mp eG
        cases h3
        have G2 := G'.swap S tk
        have rka := S.rk_at hk ls
        refine iteT' bb ?_
        try dsimp only
        rw [e_seq]
        try simp only [e_var, e_C, e_op, e_neg, e_isN, e_notN, e_and, e_or, e_not, e_test, e_tAnd, e_tOr, e_tNot, e_tYes, e_if, e_aNil, e_aCons, e_tup, e_lst, e_lstN, e_len0, e_len1, e_len2, e_len3, e_len4, e_len5, e_cb, e_on1, e_on2, e_onI, e_onB, e_onO, e_onO0, e_onOO, e_I0, e_I, e_add, e_addT, e_addS, e_addL, e_addLR, e_addRL, e_addRR, e_mul, e_mulL, e_mulT, e_rev, e_revT, e_ix, e_eqI, e_eqS, e_eqB, e_neI, e_neS, e_neB, e_ltI, e_chain, e_len, e_abs, e_2I, e_tuple1, e_tuple2, e_tuple3, e_listT, e_listN, e_allR, e_seqT, e_seqK, e_seqL, e_isi, e_isB, e_notB, e_truth, e_next, e_drop, e_ret, e_retN, e_ifS, e_set, e_asg, e_par, e_nm, e_gsN, e_gsC, e_gTpK, e_gTpL, e_sum, e_maxL, e_minL, e_maxDef, e_int, e_intB, e_aug, e_on3, e_par3, e_newK, e_getK, e_keyI, e_keyS, e_inK, e_ninK, e_putK, e_lenK, e_lstS, e_seqX, e_gTpT, e_oN, e_oS, e_sl, e_slT, e_slL, e_finT, e_finN, e_index, e_idxT, e_idxL, e_mIx, e_ixST, e_ixSL, e_mtL, e_w, e_w1, e_w2, e_wE, e_wZ, e_itK, e_itT, e_itL, e_itT2, e_itL2, e_lc, e_for, e_wipe0, e_wipe, e_okI, e_okR, e_gSb, List.getElem?_cons_zero, List.getElem?_cons_succ, List.set_cons_zero, List.set_cons_succ]
        refine ⟨by unfold LstD; simp only [ownB], append_ref ownB (by rw [List.length_map]; omega) ?_⟩
        rw [putB]
        try simp only [e_var, e_C, e_op, e_neg, e_isN, e_notN, e_and, e_or, e_not, e_test, e_tAnd, e_tOr, e_tNot, e_tYes, e_if, e_aNil, e_aCons, e_tup, e_lst, e_lstN, e_len0, e_len1, e_len2, e_len3, e_len4, e_len5, e_cb, e_on1, e_on2, e_onI, e_onB, e_onO, e_onO0, e_onOO, e_I0, e_I, e_add, e_addT, e_addS, e_addL, e_addLR, e_addRL, e_addRR, e_mul, e_mulL, e_mulT, e_rev, e_revT, e_ix, e_eqI, e_eqS, e_eqB, e_neI, e_neS, e_neB, e_ltI, e_chain, e_len, e_abs, e_2I, e_tuple1, e_tuple2, e_tuple3, e_listT, e_listN, e_allR, e_seqT, e_seqK, e_seqL, e_isi, e_isB, e_notB, e_truth, e_next, e_drop, e_ret, e_retN, e_ifS, e_set, e_asg, e_par, e_nm, e_gsN, e_gsC, e_gTpK, e_gTpL, e_sum, e_maxL, e_minL, e_maxDef, e_int, e_intB, e_aug, e_on3, e_par3, e_newK, e_getK, e_keyI, e_keyS, e_inK, e_ninK, e_putK, e_lenK, e_lstS, e_seqX, e_gTpT, e_oN, e_oS, e_sl, e_slT, e_slL, e_finT, e_finN, e_index, e_idxT, e_idxL, e_mIx, e_ixST, e_ixSL, e_mtL, e_w, e_w1, e_w2, e_wE, e_wZ, e_itK, e_itT, e_itL, e_itT2, e_itL2, e_lc, e_for, e_wipe0, e_wipe, e_okI, e_okR, e_gSb, List.getElem?_cons_zero, List.getElem?_cons_succ, List.set_cons_zero, List.set_cons_succ, seq_ref ownA, tk.d, setS_ref ownA, List.length_map, ixN_lt lsl, putA]
        refine ⟨rfl, ?_⟩
        try simp only [e_var, e_C, e_op, e_neg, e_isN, e_notN, e_and, e_or, e_not, e_test, e_tAnd, e_tOr, e_tNot, e_tYes, e_if, e_aNil, e_aCons, e_tup, e_lst, e_lstN, e_len0, e_len1, e_len2, e_len3, e_len4, e_len5, e_cb, e_on1, e_on2, e_onI, e_onB, e_onO, e_onO0, e_onOO, e_I0, e_I, e_add, e_addT, e_addS, e_addL, e_addLR, e_addRL, e_addRR, e_mul, e_mulL, e_mulT, e_rev, e_revT, e_ix, e_eqI, e_eqS, e_eqB, e_neI, e_neS, e_neB, e_ltI, e_chain, e_len, e_abs, e_2I, e_tuple1, e_tuple2, e_tuple3, e_listT, e_listN, e_allR, e_seqT, e_seqK, e_seqL, e_isi, e_isB, e_notB, e_truth, e_next, e_drop, e_ret, e_retN, e_ifS, e_set, e_asg, e_par, e_nm, e_gsN, e_gsC, e_gTpK, e_gTpL, e_sum, e_maxL, e_minL, e_maxDef, e_int, e_intB, e_aug, e_on3, e_par3, e_newK, e_getK, e_keyI, e_keyS, e_inK, e_ninK, e_putK, e_lenK, e_lstS, e_seqX, e_gTpT, e_oN, e_oS, e_sl, e_slT, e_slL, e_finT, e_finN, e_index, e_idxT, e_idxL, e_mIx, e_ixST, e_ixSL, e_mtL, e_w, e_w1, e_w2, e_wE, e_wZ, e_itK, e_itT, e_itL, e_itT2, e_itL2, e_lc, e_for, e_wipe0, e_wipe, e_okI, e_okR, e_gSb, List.getElem?_cons_zero, List.getElem?_cons_succ, List.set_cons_zero, List.set_cons_succ, S.p_at hk, intsD_ints, rka.2.2, true_and]
        have z := S.s_at hk G2.hi
        have e5 : ((rk P k (pr P b i) : Nat) : Int) + 1 = ((rk P k (pr P b i) + 1 : Nat) : Int) := by omega
        rw [e5, z]
        try simp only [e_var, e_C, e_op, e_neg, e_isN, e_notN, e_and, e_or, e_not, e_test, e_tAnd, e_tOr, e_tNot, e_tYes, e_if, e_aNil, e_aCons, e_tup, e_lst, e_lstN, e_len0, e_len1, e_len2, e_len3, e_len4, e_len5, e_cb, e_on1, e_on2, e_onI, e_onB, e_onO, e_onO0, e_onOO, e_I0, e_I, e_add, e_addT, e_addS, e_addL, e_addLR, e_addRL, e_addRR, e_mul, e_mulL, e_mulT, e_rev, e_revT, e_ix, e_eqI, e_eqS, e_eqB, e_neI, e_neS, e_neB, e_ltI, e_chain, e_len, e_abs, e_2I, e_tuple1, e_tuple2, e_tuple3, e_listT, e_listN, e_allR, e_seqT, e_seqK, e_seqL, e_isi, e_isB, e_notB, e_truth, e_next, e_drop, e_ret, e_retN, e_ifS, e_set, e_asg, e_par, e_nm, e_gsN, e_gsC, e_gTpK, e_gTpL, e_sum, e_maxL, e_minL, e_maxDef, e_int, e_intB, e_aug, e_on3, e_par3, e_newK, e_getK, e_keyI, e_keyS, e_inK, e_ninK, e_putK, e_lenK, e_lstS, e_seqX, e_gTpT, e_oN, e_oS, e_sl, e_slT, e_slL, e_finT, e_finN, e_index, e_idxT, e_idxL, e_mIx, e_ixST, e_ixSL, e_mtL, e_w, e_w1, e_w2, e_wE, e_wZ, e_itK, e_itT, e_itL, e_itT2, e_itL2, e_lc, e_for, e_wipe0, e_wipe, e_okI, e_okR, e_gSb, List.getElem?_cons_zero, List.getElem?_cons_succ, List.set_cons_zero, List.set_cons_succ]
        refine hN f _ _ (Nat.lt_succ_self _) (.inl ⟨sl'.set (pr P b i) (b : Int), k, rk P k (pr P b i) + 1, pre ++ [(b, pr P b i)], p2, G2, h2, by rw [List.append_assoc]; exact eP, rfl, ?_⟩)
        rw [List.map_set, List.map_append]
        rfl
      · rw [if_neg bb] at eG
        have G2 := G'.on S tk
        have rka := S.rk_at G'.ha ls
        have rkp := S.rk_pr G'.ha G'.hi
        refine iteF' (by simpa using bb) ?_
        try simp only [e_var, e_C, e_op, e_neg, e_isN, e_notN, e_and, e_or, e_not, e_test, e_tAnd, e_tOr, e_tNot, e_tYes, e_if, e_aNil, e_aCons, e_tup, e_lst, e_lstN, e_len0, e_len1, e_len2, e_len3, e_len4, e_len5, e_cb, e_on1, e_on2, e_onI, e_onB, e_onO, e_onO0, e_onOO, e_I0, e_I, e_add, e_addT, e_addS, e_addL, e_addLR, e_addRL, e_addRR, e_mul, e_mulL, e_mulT, e_rev, e_revT, e_ix, e_eqI, e_eqS, e_eqB, e_neI, e_neS, e_neB, e_ltI, e_chain, e_len, e_abs, e_2I, e_tuple1, e_tuple2, e_tuple3, e_listT, e_listN, e_allR, e_seqT, e_seqK, e_seqL, e_isi, e_isB, e_notB, e_truth, e_next, e_drop, e_ret, e_retN, e_ifS, e_set, e_asg, e_par, e_nm, e_gsN, e_gsC, e_gTpK, e_gTpL, e_sum, e_maxL, e_minL, e_maxDef, e_int, e_intB, e_aug, e_on3, e_par3, e_newK, e_getK, e_keyI, e_keyS, e_inK, e_ninK, e_putK, e_lenK, e_lstS, e_seqX, e_gTpT, e_oN, e_oS, e_sl, e_slT, e_slL, e_finT, e_finN, e_index, e_idxT, e_idxL, e_mIx, e_ixST, e_ixSL, e_mtL, e_w, e_w1, e_w2, e_wE, e_wZ, e_itK, e_itT, e_itL, e_itT2, e_itL2, e_lc, e_for, e_wipe0, e_wipe, e_okI, e_okR, e_gSb, List.getElem?_cons_zero, List.getElem?_cons_succ, List.set_cons_zero, List.set_cons_succ, S.p_at G'.ha, intsD_ints, rka.2.2, true_and, rkp]
        have z := S.s_at G'.ha G2.hi
        have e5 : ((i : Nat) : Int) + 1 = ((i + 1 : Nat) : Int) := by omega
        rw [e5, z]
        try simp only [e_var, e_C, e_op, e_neg, e_isN, e_notN, e_and, e_or, e_not, e_test, e_tAnd, e_tOr, e_tNot, e_tYes, e_if, e_aNil, e_aCons, e_tup, e_lst, e_lstN, e_len0, e_len1, e_len2, e_len3, e_len4, e_len5, e_cb, e_on1, e_on2, e_onI, e_onB, e_onO, e_onO0, e_onOO, e_I0, e_I, e_add, e_addT, e_addS, e_addL, e_addLR, e_addRL, e_addRR, e_mul, e_mulL, e_mulT, e_rev, e_revT, e_ix, e_eqI, e_eqS, e_eqB, e_neI, e_neS, e_neB, e_ltI, e_chain, e_len, e_abs, e_2I, e_tuple1, e_tuple2, e_tuple3, e_listT, e_listN, e_allR, e_seqT, e_seqK, e_seqL, e_isi, e_isB, e_notB, e_truth, e_next, e_drop, e_ret, e_retN, e_ifS, e_set, e_asg, e_par, e_nm, e_gsN, e_gsC, e_gTpK, e_gTpL, e_sum, e_maxL, e_minL, e_maxDef, e_int, e_intB, e_aug, e_on3, e_par3, e_newK, e_getK, e_keyI, e_keyS, e_inK, e_ninK, e_putK, e_lenK, e_lstS, e_seqX, e_gTpT, e_oN, e_oS, e_sl, e_slT, e_slL, e_finT, e_finN, e_index, e_idxT, e_idxL, e_mIx, e_ixST, e_ixSL, e_mtL, e_w, e_w1, e_w2, e_wE, e_wZ, e_itK, e_itT, e_itL, e_itT2, e_itL2, e_lc, e_for, e_wipe0, e_wipe, e_okI, e_okR, e_gSb, List.getElem?_cons_zero, List.getElem?_cons_succ, List.set_cons_zero, List.set_cons_succ]
        exact hN f _ _ (Nat.lt_succ_self _) (.inl ⟨sl', b, i + 1, pre, p, G2, eG, eP, rfl, rfl⟩)
end
end DL
namespace DL
open PySem PySem.Spec PyProof.Rows L2 LamX PySem.W SL
structure Hist (m n : Nat) (h : List Nat) : Prop where
  nd : h.Nodup
  lt : ∀ k ∈ h, k < m
  few : h.length ≤ n
def histD (h : List Nat) : D := .tup (h.map fun k : Nat => .int (k : Nat))
def layG (P : List (List Int)) (R : List (List (List Int))) (sl : List Int) (h : List Nat) : List Int := h.foldl (fun sl a => (ins P R sl a).1) sl
def emp (n : Nat) : List Int := List.replicate n (-1)
def layF (P : List (List Int)) (R : List (List (List Int))) (h : List Nat) : List Int := layG P R (emp R.length) h
section
variable {m n : Nat} {P : List (List Int)} {R : List (List (List Int))}
theorem emp_at {n s k : Nat} : ¬ At (emp n) s k := by
  unfold At emp
  rw [List.getElem?_replicate]
  split
  · intro z
    have := Option.some.inj z
    omega
  · intro z
    cases z
theorem emp_good (m n : Nat) (P : List (List Int)) : Good m n P (emp n) := by
  refine ⟨⟨by unfold emp; simp, fun x hx => ?_, fun s t k h _ => absurd h emp_at⟩, fun s k h => absurd h emp_at⟩
  unfold emp at hx
  rw [List.eq_of_mem_replicate hx]
  omega
theorem lay_room {sl : List Int} {q : List Nat} (L : Lay m n sl) (ks : ∀ s k, At sl s k → k ∈ q) (lt : q.length < n) : ∃ t, t < n ∧ sl[t]? = some (-1) := by
  apply Classical.byContradiction
  intro no
  have all : ∀ t, t < n → ∃ k, At sl t k := fun t ht => by
    rcases L.either ht with e | h
    · exact absurd ⟨t, ht, e⟩ no
    · exact h
  have nd : sl.Nodup := by
    refine List.pairwise_iff_getElem.mpr fun i j hi hj lt => ?_
    intro e
    rw [L.len] at hi hj
    obtain ⟨k, hk⟩ := all i hi
    have h2 : At sl j k := by
      unfold At at hk ⊢
      rw [List.getElem?_eq_getElem (by rw [L.len]; exact hj), ← e, ← hk, List.getElem?_eq_getElem (by rw [L.len]; exact hi)]
    have := L.inj _ _ _ hk h2
    omega
  have z := sub_len (ys := q.map fun k : Nat => (k : Int)) nd fun x hx => by
    obtain ⟨i, hi⟩ := List.mem_iff_getElem?.mp hx
    have li := (List.getElem?_eq_some_iff.mp hi).1
    rw [L.len] at li
    obtain ⟨k, hk⟩ := all i li
    have : x = (k : Int) := by
      unfold At at hk
      rw [hi] at hk
      exact Option.some.inj hk
    rw [this]
    exact List.mem_map.mpr ⟨k, ks _ _ hk, rfl⟩
  rw [List.length_map, L.len] at z
  omega
theorem step_go (S : Setg m n P R) {sl : List Int} {q : List Nat} {a : Nat} (g : Good m n P sl) (ks : ∀ k, (∃ s, At sl s k) ↔ k ∈ q) (ha : a < m) (na : a ∉ q) (lt : q.length < n) : Go m n P sl a 0 :=
  Go.start g ha (fun t h => na ((ks a).mp ⟨t, h⟩)) (lay_room g.lay (fun s k h => (ks k).mp ⟨s, h⟩) lt)
theorem step_good (S : Setg m n P R) {sl : List Int} {q : List Nat} {a : Nat} (G : Go m n P sl a 0) (ks : ∀ k, (∃ s, At sl s k) ↔ k ∈ q) : Good m n P (ins P R sl a).1 ∧ ∀ k, (∃ s, At (ins P R sl a).1 s k) ↔ k ∈ q ++ [a] := by
  have e := ins_eq S G
  obtain ⟨g, k2, _⟩ := insG_good S _ _ _ _ (ins P R sl a).1 (ins P R sl a).2 G e
  refine ⟨g, fun k => ?_⟩
  rw [k2, List.mem_append, List.mem_singleton, ks]
  exact ⟨fun h => h.elim .inr .inl, fun h => h.elim .inr .inl⟩
theorem layG_good (S : Setg m n P R) : ∀ (h q : List Nat) (sl : List Int), Good m n P sl → (∀ k, (∃ s, At sl s k) ↔ k ∈ q) → Hist m n (q ++ h) → Good m n P (layG P R sl h) ∧ ∀ k, (∃ s, At (layG P R sl h) s k) ↔ k ∈ q ++ h
  | [], q, sl, g, ks, H => by
    rw [List.append_nil]
    exact ⟨g, ks⟩
  | a :: h, q, sl, g, ks, H => by
    have nd := H.nd
    rw [List.nodup_append] at nd
    have fw := H.few
    rw [List.length_append, List.length_cons] at fw
    have G := step_go S g ks (H.lt a (by simp)) (fun z => nd.2.2 a z a (by simp) rfl) (by omega)
    obtain ⟨g2, k2⟩ := step_good S G ks
    have z := layG_good S h (q ++ [a]) _ g2 k2 (by rw [List.append_assoc]; exact H)
    rw [List.append_assoc] at z
    exact z
theorem layF_good (S : Setg m n P R) {h : List Nat} (H : Hist m n h) : Good m n P (layF P R h) ∧ ∀ k, (∃ s, At (layF P R h) s k) ↔ k ∈ h := by
  have z := layG_good S h [] (emp R.length) (by rw [S.rl]; exact emp_good m n P) (fun k => ⟨fun ⟨s, hs⟩ => absurd hs emp_at, fun h => by cases h⟩) H
  exact z
theorem layG_app (sl : List Int) (a b : List Nat) : layG P R sl (a ++ b) = layG P R (layG P R sl a) b := by unfold layG; rw [List.foldl_append]
def g_layout : DRs := fun ds st Q => ∃ (m n : Nat) (P : List (List Int)) (R : List (List (List Int))) (h : List Nat), ds = [rowsD P, tabsD R, histD h] ∧ Setg m n P R ∧ m ≤ 60 ∧ n ≤ 60 ∧ 0 < n ∧ Hist m n h ∧ Q (rowD (layF P R h)) st
theorem ar_layout (ds : List D) (st : DSt) (Q : DK) (h : g_layout ds st Q) : ds.length = 3 := by
  obtain ⟨_, _, _, _, _, rfl, _⟩ := h
  rfl
theorem emp_map (n : Nat) : (List.replicate n [D.int (-1)]).flatten = (emp n).map D.int := by unfold emp; rw [rep_flat, List.map_replicate]
set_option maxHeartbeats 1000000 in
theorem sem_layout (ds : List D) (st : DSt) (Q : DK) (h : g_layout ds st Q) : F_layout_of g_insert { nx := fun _ st' => Rt st Q .non st', rt := Rt st Q } (startD 5 ds) st := by
  obtain ⟨m, n, P, R, h, rfl, S, m60, n60, n0, H, q⟩ := h
  have st5 : startD 5 [rowsD P, tabsD R, histD h] = [some (.tup (P.map rowD)), some (.tup (R.map rowsD)), some (.tup (h.map fun k : Nat => .int (k : Nat))), none, none] := rfl
  have rl := S.rl
  simp only [F_layout_of, st5]
  try dsimp only
  rw [e_seq]
  try simp only [e_var, e_C, e_op, e_neg, e_isN, e_notN, e_and, e_or, e_not, e_test, e_tAnd, e_tOr, e_tNot, e_tYes, e_if, e_aNil, e_aCons, e_tup, e_lst, e_lstN, e_len0, e_len1, e_len2, e_len3, e_len4, e_len5, e_cb, e_on1, e_on2, e_onI, e_onB, e_onO, e_onO0, e_onOO, e_I0, e_I, e_add, e_addT, e_addS, e_addL, e_addLR, e_addRL, e_addRR, e_mul, e_mulL, e_mulT, e_rev, e_revT, e_ix, e_eqI, e_eqS, e_eqB, e_neI, e_neS, e_neB, e_ltI, e_chain, e_len, e_abs, e_2I, e_tuple1, e_tuple2, e_tuple3, e_listT, e_listN, e_allR, e_seqT, e_seqK, e_seqL, e_isi, e_isB, e_notB, e_truth, e_next, e_drop, e_ret, e_retN, e_ifS, e_set, e_asg, e_par, e_nm, e_gsN, e_gsC, e_gTpK, e_gTpL, e_sum, e_maxL, e_minL, e_maxDef, e_int, e_intB, e_aug, e_on3, e_par3, e_newK, e_getK, e_keyI, e_keyS, e_inK, e_ninK, e_putK, e_lenK, e_lstS, e_seqX, e_gTpT, e_oN, e_oS, e_sl, e_slT, e_slL, e_finT, e_finN, e_index, e_idxT, e_idxL, e_mIx, e_ixST, e_ixSL, e_mtL, e_w, e_w1, e_w2, e_wE, e_wZ, e_itK, e_itT, e_itL, e_itT2, e_itL2, e_lc, e_for, e_wipe0, e_wipe, e_okI, e_okR, e_gSb, List.getElem?_cons_zero, List.getElem?_cons_succ, List.set_cons_zero, List.set_cons_succ, List.length_map, rl, Int.toNat_natCast]
  refine ⟨fun z => (by cases z), by omega, by omega, by simp, ?_⟩
  rw [emp_map]
  try dsimp only
  rw [e_seq]
  try simp only [e_var, e_C, e_op, e_neg, e_isN, e_notN, e_and, e_or, e_not, e_test, e_tAnd, e_tOr, e_tNot, e_tYes, e_if, e_aNil, e_aCons, e_tup, e_lst, e_lstN, e_len0, e_len1, e_len2, e_len3, e_len4, e_len5, e_cb, e_on1, e_on2, e_onI, e_onB, e_onO, e_onO0, e_onOO, e_I0, e_I, e_add, e_addT, e_addS, e_addL, e_addLR, e_addRL, e_addRR, e_mul, e_mulL, e_mulT, e_rev, e_revT, e_ix, e_eqI, e_eqS, e_eqB, e_neI, e_neS, e_neB, e_ltI, e_chain, e_len, e_abs, e_2I, e_tuple1, e_tuple2, e_tuple3, e_listT, e_listN, e_allR, e_seqT, e_seqK, e_seqL, e_isi, e_isB, e_notB, e_truth, e_next, e_drop, e_ret, e_retN, e_ifS, e_set, e_asg, e_par, e_nm, e_gsN, e_gsC, e_gTpK, e_gTpL, e_sum, e_maxL, e_minL, e_maxDef, e_int, e_intB, e_aug, e_on3, e_par3, e_newK, e_getK, e_keyI, e_keyS, e_inK, e_ninK, e_putK, e_lenK, e_lstS, e_seqX, e_gTpT, e_oN, e_oS, e_sl, e_slT, e_slL, e_finT, e_finN, e_index, e_idxT, e_idxL, e_mIx, e_ixST, e_ixSL, e_mtL, e_w, e_w1, e_w2, e_wE, e_wZ, e_itK, e_itT, e_itL, e_itT2, e_itL2, e_lc, e_for, e_wipe0, e_wipe, e_okI, e_okR, e_gSb, List.getElem?_cons_zero, List.getElem?_cons_succ, List.set_cons_zero, List.set_cons_succ]
  refine for_list (fun k : Nat => D.int (k : Nat)) (fun left r st' => ∃ (dn : List Nat) (x4 : Option D), dn ++ left = h ∧ r = [some (.tup (P.map rowD)), some (.tup (R.map rowsD)), some (.tup (h.map fun k : Nat => .int (k : Nat))), some (.tup ((layF P R dn).map D.int)), x4] ∧ st = st') ?_ ?_ h _ _ ⟨[], _, rfl, by unfold layF layG; rw [rl]; rfl, rfl⟩
  · rintro a left r st' N hN ⟨dn, x4, e, rfl, rfl⟩
    have Hd : Hist m n dn := by
      have nd := H.nd
      have lt := H.lt
      have fw := H.few
      rw [← e] at nd lt fw
      rw [List.nodup_append] at nd
      rw [List.length_append] at fw
      exact ⟨nd.1, fun k hk => lt k (List.mem_append_left _ hk), by omega⟩
    obtain ⟨g, ks⟩ := layF_good S Hd
    have nd := H.nd
    have fw := H.few
    rw [← e] at nd fw
    rw [List.nodup_append] at nd
    rw [List.length_append, List.length_cons] at fw
    have G := step_go S g ks (H.lt a (by rw [← e]; simp)) (fun z => nd.2.2 a z a (by simp) rfl) (by omega)
    try simp only [e_var, e_C, e_op, e_neg, e_isN, e_notN, e_and, e_or, e_not, e_test, e_tAnd, e_tOr, e_tNot, e_tYes, e_if, e_aNil, e_aCons, e_tup, e_lst, e_lstN, e_len0, e_len1, e_len2, e_len3, e_len4, e_len5, e_cb, e_on1, e_on2, e_onI, e_onB, e_onO, e_onO0, e_onOO, e_I0, e_I, e_add, e_addT, e_addS, e_addL, e_addLR, e_addRL, e_addRR, e_mul, e_mulL, e_mulT, e_rev, e_revT, e_ix, e_eqI, e_eqS, e_eqB, e_neI, e_neS, e_neB, e_ltI, e_chain, e_len, e_abs, e_2I, e_tuple1, e_tuple2, e_tuple3, e_listT, e_listN, e_allR, e_seqT, e_seqK, e_seqL, e_isi, e_isB, e_notB, e_truth, e_next, e_drop, e_ret, e_retN, e_ifS, e_set, e_asg, e_par, e_nm, e_gsN, e_gsC, e_gTpK, e_gTpL, e_sum, e_maxL, e_minL, e_maxDef, e_int, e_intB, e_aug, e_on3, e_par3, e_newK, e_getK, e_keyI, e_keyS, e_inK, e_ninK, e_putK, e_lenK, e_lstS, e_seqX, e_gTpT, e_oN, e_oS, e_sl, e_slT, e_slL, e_finT, e_finN, e_index, e_idxT, e_idxL, e_mIx, e_ixST, e_ixSL, e_mtL, e_w, e_w1, e_w2, e_wE, e_wZ, e_itK, e_itT, e_itL, e_itT2, e_itL2, e_lc, e_for, e_wipe0, e_wipe, e_okI, e_okR, e_gSb, List.getElem?_cons_zero, List.getElem?_cons_succ, List.set_cons_zero, List.set_cons_succ]
    refine ⟨m, n, P, R, layF P R dn, a, rfl, S, m60, n60, G, ?_⟩
    try simp only [e_var, e_C, e_op, e_neg, e_isN, e_notN, e_and, e_or, e_not, e_test, e_tAnd, e_tOr, e_tNot, e_tYes, e_if, e_aNil, e_aCons, e_tup, e_lst, e_lstN, e_len0, e_len1, e_len2, e_len3, e_len4, e_len5, e_cb, e_on1, e_on2, e_onI, e_onB, e_onO, e_onO0, e_onOO, e_I0, e_I, e_add, e_addT, e_addS, e_addL, e_addLR, e_addRL, e_addRR, e_mul, e_mulL, e_mulT, e_rev, e_revT, e_ix, e_eqI, e_eqS, e_eqB, e_neI, e_neS, e_neB, e_ltI, e_chain, e_len, e_abs, e_2I, e_tuple1, e_tuple2, e_tuple3, e_listT, e_listN, e_allR, e_seqT, e_seqK, e_seqL, e_isi, e_isB, e_notB, e_truth, e_next, e_drop, e_ret, e_retN, e_ifS, e_set, e_asg, e_par, e_nm, e_gsN, e_gsC, e_gTpK, e_gTpL, e_sum, e_maxL, e_minL, e_maxDef, e_int, e_intB, e_aug, e_on3, e_par3, e_newK, e_getK, e_keyI, e_keyS, e_inK, e_ninK, e_putK, e_lenK, e_lstS, e_seqX, e_gTpT, e_oN, e_oS, e_sl, e_slT, e_slL, e_finT, e_finN, e_index, e_idxT, e_idxL, e_mIx, e_ixST, e_ixSL, e_mtL, e_w, e_w1, e_w2, e_wE, e_wZ, e_itK, e_itT, e_itL, e_itT2, e_itL2, e_lc, e_for, e_wipe0, e_wipe, e_okI, e_okR, e_gSb, List.getElem?_cons_zero, List.getElem?_cons_succ, List.set_cons_zero, List.set_cons_succ, at0]
    refine hN _ _ (.inl ⟨dn ++ [a], some (.int (a : Nat)), by rw [List.append_assoc]; exact e, ?_, rfl⟩)
    have z : layF P R (dn ++ [a]) = (ins P R (layF P R dn) a).1 := by
      unfold layF
      rw [layG_app]
      rfl
    rw [z]
    rfl
  · rintro r st' ⟨dn, x4, e, rfl, rfl⟩
    rw [List.append_nil] at e
    subst e
    try simp only [e_var, e_C, e_op, e_neg, e_isN, e_notN, e_and, e_or, e_not, e_test, e_tAnd, e_tOr, e_tNot, e_tYes, e_if, e_aNil, e_aCons, e_tup, e_lst, e_lstN, e_len0, e_len1, e_len2, e_len3, e_len4, e_len5, e_cb, e_on1, e_on2, e_onI, e_onB, e_onO, e_onO0, e_onOO, e_I0, e_I, e_add, e_addT, e_addS, e_addL, e_addLR, e_addRL, e_addRR, e_mul, e_mulL, e_mulT, e_rev, e_revT, e_ix, e_eqI, e_eqS, e_eqB, e_neI, e_neS, e_neB, e_ltI, e_chain, e_len, e_abs, e_2I, e_tuple1, e_tuple2, e_tuple3, e_listT, e_listN, e_allR, e_seqT, e_seqK, e_seqL, e_isi, e_isB, e_notB, e_truth, e_next, e_drop, e_ret, e_retN, e_ifS, e_set, e_asg, e_par, e_nm, e_gsN, e_gsC, e_gTpK, e_gTpL, e_sum, e_maxL, e_minL, e_maxDef, e_int, e_intB, e_aug, e_on3, e_par3, e_newK, e_getK, e_keyI, e_keyS, e_inK, e_ninK, e_putK, e_lenK, e_lstS, e_seqX, e_gTpT, e_oN, e_oS, e_sl, e_slT, e_slL, e_finT, e_finN, e_index, e_idxT, e_idxL, e_mIx, e_ixST, e_ixSL, e_mtL, e_w, e_w1, e_w2, e_wE, e_wZ, e_itK, e_itT, e_itL, e_itT2, e_itL2, e_lc, e_for, e_wipe0, e_wipe, e_okI, e_okR, e_gSb, List.getElem?_cons_zero, List.getElem?_cons_succ, List.set_cons_zero, List.set_cons_succ]
    exact .inl q
end
end DL
namespace DL
open PySem PySem.Spec PyProof.Rows L2 LamX PySem.W SL
end DL
namespace DL
open PySem PySem.Spec PyProof.Rows L2 LamX PySem.W SL
theorem rot_perm {α : Type} (xs : List α) (a : Nat) : (xs.drop a ++ xs.take a).Perm xs := List.perm_append_comm.trans (by rw [List.take_append_drop])
theorem cutH (xs : List D) (k : Nat) : cutD xs none (some (k : Int)) = xs.take k := by
  unfold cutD
  have z : HT.sIx xs.length xs.length (some (k : Int)) = min k xs.length := HT.sIx_nat xs.length xs.length k
  rw [z, HT.sIx_none, List.drop_zero, Nat.sub_zero]
  rcases Nat.le_total k xs.length with h | h
  · rw [Nat.min_eq_left h]
  · rw [Nat.min_eq_right h, List.take_length, List.take_of_length_le h]
theorem clos_rows (n : Nat) : ∀ P : List (List Int), clos n (P.map rowD) = true
  | [] => rfl
  | x :: r => by
    rw [List.map_cons]
    show (clo n (rowD x) && clos n (r.map rowD)) = true
    rw [clos_rows n r, Bool.and_true]
    simp only [rowD, clo]
    exact clos_ints n x
end DL
namespace DL
open PySem PySem.Spec PyProof.Rows L2 LamX PySem.W SL
theorem clos_tabs (n : Nat) : ∀ R : List (List (List Int)), clos n (R.map rowsD) = true
  | [] => rfl
  | x :: r => by
    rw [List.map_cons]
    show (clo n (rowsD x) && clos n (r.map rowsD)) = true
    rw [clos_tabs n r, Bool.and_true]
    simp only [rowsD, clo]
    exact clos_rows n x
end DL
namespace DL
open PySem PySem.Spec PyProof.Rows L2 LamX PySem.W SL
theorem dist_mod {n a : Nat} (i : Nat) : ML.dist n a (i % n) = ML.dist n a i := by unfold ML.dist; rw [Nat.mod_add_mod]
theorem isTk_iff {c : List Int} {s : Nat} (h : s < c.length) : isTk c s = true ↔ ML.tk (ML.cy c) (ML.cy (ML.flowsI c)) (s + (c.length - 1)) := by
  unfold isTk ML.tk
  rw [decide_eq_true_eq, show s + (c.length - 1) + 1 = s + c.length by omega, ML.cy_per, ML.cy_lt h]
structure More (c : List Int) (a L : Nat) : Prop where
  hc : Cnt c
  ha : a < c.length
  lt : ML.sumL c < c.length
  pas : ML.Passed c.length a L (ML.cy c) (ML.cy (ML.flowsI c))
def plus (c : List Int) (a : Nat) : List Int := c.set a (c.getD a 0 + 1)
theorem plus_length (c : List Int) (a : Nat) : (plus c a).length = c.length := by unfold plus; rw [List.length_set]
theorem plus_cnt {c : List Int} {a : Nat} (h : Cnt c) (ha : a < c.length) (lt : ML.sumL c < c.length) : Cnt (plus c a) := by
  refine ⟨fun z => ?_, by rw [plus_length]; exact h.few, fun x hx => ?_, ?_⟩
  · have := plus_length c a
    rw [z] at this
    exact h.ne (List.length_eq_zero_iff.mp this.symm)
  · unfold plus at hx
    rcases List.mem_or_eq_of_mem_set hx with w | w
    · exact h.nn x w
    · have := h.nn _ (getD_mem ha)
      omega
  · rw [plus_length]
    unfold plus
    rw [sum_set ha]
    omega
theorem plus_cy {c : List Int} {a : Nat} (ha : a < c.length) (i : Nat) : ML.cy (plus c a) i = ML.addC c.length a (ML.cy c) i := by
  have n0 : 0 < c.length := by omega
  unfold ML.addC
  have lm := Nat.mod_lt i n0
  have dz : ML.dist c.length a i = 0 ↔ i % c.length = a := by rw [← dist_mod i]; exact ML.dist_zero ha lm
  unfold ML.cy
  rw [plus_length]
  unfold plus
  by_cases e : i % c.length = a
  · rw [if_pos (dz.mpr e), e, List.getD_eq_getElem?_getD, List.getElem?_set_self ha]
    rfl
  · rw [if_neg (fun z => e (dz.mp z)), List.getD_eq_getElem?_getD, List.getElem?_set_ne (fun z => e z.symm), ← List.getD_eq_getElem?_getD]
    omega
def addL (F : List Int) (a t : Nat) : List Int := (List.range F.length).map fun s => F.getD s 0 + if ML.dist F.length a s < t then 1 else 0
theorem addL_length (F : List Int) (a t : Nat) : (addL F a t).length = F.length := by unfold addL; rw [List.length_map, List.length_range]
theorem addL_at {F : List Int} {a t s : Nat} (h : s < F.length) : (addL F a t).getD s 0 = F.getD s 0 + if ML.dist F.length a s < t then 1 else 0 := by
  unfold addL
  rw [List.getD_eq_getElem?_getD, List.getElem?_map, List.getElem?_eq_getElem (by rw [List.length_range]; exact h), List.getElem_range]
  rfl
theorem getD_ext {xs ys : List Int} (l : xs.length = ys.length) (h : ∀ i, i < xs.length → xs.getD i 0 = ys.getD i 0) : xs = ys := by
  refine List.ext_getElem l fun i h1 h2 => ?_
  have e := h i h1
  rw [List.getD_eq_getElem?_getD, List.getElem?_eq_getElem h1, List.getD_eq_getElem?_getD, List.getElem?_eq_getElem h2] at e
  simpa using e
theorem More.flows {c : List Int} {a L : Nat} (m : More c a L) : ML.flowsI (plus c a) = addL (ML.flowsI c) a L := by
  have n0 : 0 < c.length := m.hc.pos
  have lf := ML.flowsI_length c
  have cn := plus_cnt m.hc m.ha m.lt
  have c0 : ∀ i, 0 ≤ ML.cy c i := fun i => m.hc.nn _ (getD_mem (Nat.mod_lt _ n0))
  have F1 := m.hc.flow.more c0 m.pas
  have F2 := cn.flow
  rw [plus_length] at F2
  have F2' : ML.Flow c.length (ML.addC c.length a (ML.cy c)) (ML.cy (ML.flowsI (plus c a))) := ⟨F2.per, F2.nn, fun i => by rw [F2.rec_, plus_cy m.ha], F2.zero⟩
  refine getD_ext (by rw [ML.flowsI_length, plus_length, addL_length, lf]) fun i hi => ?_
  rw [ML.flowsI_length, plus_length] at hi
  have e := F2'.one F1 n0 i
  rw [ML.cy_lt (by rw [ML.flowsI_length, plus_length]; exact hi)] at e
  rw [e, addL_at (by rw [lf]; exact hi), lf]
  unfold ML.addF
  rw [ML.cy_lt (by rw [lf]; exact hi)]
theorem More.tk {c : List Int} {a L : Nat} (m : More c a L) {s : Nat} (h : s < c.length) : isTk (plus c a) s = true ↔ isTk c s = true ∨ s = (a + L) % c.length := by
  have n0 : 0 < c.length := m.hc.pos
  have c0 : ∀ i, 0 ≤ ML.cy c i := fun i => m.hc.nn _ (getD_mem (Nat.mod_lt _ n0))
  have z := ML.tk_more m.hc.flow c0 m.pas (s + (c.length - 1))
  rw [isTk_iff (by rw [plus_length]; exact h), isTk_iff h, plus_length]
  have e1 : ML.tk (ML.cy (plus c a)) (ML.cy (ML.flowsI (plus c a))) (s + (c.length - 1)) ↔ ML.tk (ML.addC c.length a (ML.cy c)) (ML.addF c.length a L (ML.cy (ML.flowsI c))) (s + (c.length - 1)) := by
    unfold ML.tk
    rw [plus_cy m.ha]
    have cn := plus_cnt m.hc m.ha m.lt
    have F2 := cn.flow
    rw [plus_length] at F2
    have F2' : ML.Flow c.length (ML.addC c.length a (ML.cy c)) (ML.cy (ML.flowsI (plus c a))) := ⟨F2.per, F2.nn, fun i => by rw [F2.rec_, plus_cy m.ha], F2.zero⟩
    rw [F2'.one (m.hc.flow.more c0 m.pas) n0]
  rw [e1, z, show s + (c.length - 1) + 1 = s + c.length by omega, ML.dist_per, ML.dist_eq m.ha h m.pas.lt]
theorem More.yes {c : List Int} {a L t : Nat} (m : More c a L) (h : t < L) : isTk c ((a + t) % c.length) = true := by
  have n0 : 0 < c.length := m.hc.pos
  have lm := Nat.mod_lt (a + t) n0
  rw [isTk_iff lm]
  refine m.pas.yes _ ?_
  have ll := m.pas.lt
  rw [show (a + t) % c.length + (c.length - 1) + 1 = (a + t) % c.length + c.length by omega, ML.dist_per, (ML.dist_eq m.ha lm (by omega)).mpr rfl]
  exact h
theorem More.no {c : List Int} {a L : Nat} (m : More c a L) : isTk c ((a + L) % c.length) = false := by
  have n0 : 0 < c.length := m.hc.pos
  have lm := Nat.mod_lt (a + L) n0
  have z : ¬ isTk c ((a + L) % c.length) = true := by
    rw [isTk_iff lm]
    refine m.pas.no _ ?_
    rw [show (a + L) % c.length + (c.length - 1) + 1 = (a + L) % c.length + c.length by omega, ML.dist_per, (ML.dist_eq m.ha lm m.pas.lt).mpr rfl]
  cases h : isTk c ((a + L) % c.length) with
  | true => exact absurd h z
  | false => rfl
structure Full (c : List Int) (kvs : List (Key × D)) : Prop where
  ex : ∃ ks : List Int, kvs.map (·.1) = ks.map Sum.inl ∧ ks.Nodup ∧ ∀ x, x ∈ ks ↔ x ∈ takenI c
theorem takenI_mem {c : List Int} {x : Int} : x ∈ takenI c ↔ ∃ s : Nat, x = s ∧ s < c.length ∧ isTk c s = true := by
  unfold takenI
  rw [List.mem_map]
  constructor
  · rintro ⟨s, hs, rfl⟩
    obtain ⟨h1, h2⟩ := List.mem_filter.mp hs
    exact ⟨s, rfl, List.mem_range.mp h1, h2⟩
  · rintro ⟨s, rfl, h1, h2⟩
    exact ⟨s, List.mem_filter.mpr ⟨List.mem_range.mpr h1, h2⟩, rfl⟩
theorem takenI_at {c : List Int} {s : Nat} (h : s < c.length) : (s : Int) ∈ takenI c ↔ isTk c s = true := by
  rw [takenI_mem]
  constructor
  · rintro ⟨k, e, _, h2⟩
    have : s = k := by omega
    subst this
    exact h2
  · exact fun h2 => ⟨s, rfl, h, h2⟩
theorem valD_some {κ : Type} [DecidableEq κ] {kvs : List (κ × D)} {k : κ} : (valD kvs k).isSome = true ↔ k ∈ kvs.map (·.1) := by
  unfold valD
  rw [Option.isSome_map, List.find?_isSome]
  constructor
  · rintro ⟨p, hp, e⟩
    exact List.mem_map.mpr ⟨p, hp, of_decide_eq_true e⟩
  · intro h
    obtain ⟨p, hp, e⟩ := List.mem_map.mp h
    exact ⟨p, hp, decide_eq_true e⟩
theorem Full.at_ {c : List Int} {kvs : List (Key × D)} (f : Full c kvs) {s : Nat} (h : s < c.length) : (valD kvs (.inl (s : Int))).isSome = isTk c s := by
  obtain ⟨ks, e, nd, m⟩ := f.ex
  rw [Bool.eq_iff_iff, valD_some, e]
  rw [← takenI_at h, ← m]
  constructor
  · intro z
    obtain ⟨x, hx, e⟩ := List.mem_map.mp z
    cases e
    exact hx
  · exact fun z => List.mem_map.mpr ⟨_, z, rfl⟩
theorem putD_new {κ : Type} [DecidableEq κ] {kvs : List (κ × D)} {k : κ} {v : D} (h : (valD kvs k).isSome = false) : putD kvs k v = kvs ++ [(k, v)] := by
  unfold putD
  rw [if_neg]
  intro z
  obtain ⟨p, hp, e⟩ := List.any_eq_true.mp z
  have := valD_some.mpr (List.mem_map.mpr ⟨p, hp, of_decide_eq_true e⟩)
  rw [h] at this
  cases this
theorem Full.more {c : List Int} {a L : Nat} {kvs : List (Key × D)} {v : D} (f : Full c kvs) (m : More c a L) : Full (plus c a) (putD kvs (.inl (((a + L) % c.length : Nat) : Int)) v) := by
  have n0 : 0 < c.length := m.hc.pos
  have lm := Nat.mod_lt (a + L) n0
  have no := m.no
  rw [putD_new (by rw [f.at_ lm]; exact no)]
  obtain ⟨ks, e, nd, mm⟩ := f.ex
  have ni : (((a + L) % c.length : Nat) : Int) ∉ ks := fun z => by
    have := (takenI_at lm).mp ((mm _).mp z)
    rw [no] at this
    cases this
  refine ⟨ks ++ [(((a + L) % c.length : Nat) : Int)], by rw [List.map_append, List.map_append, e]; rfl, ?_, fun x => ?_⟩
  · rw [List.nodup_append]
    refine ⟨nd, by simp, fun y hy z hz => ?_⟩
    rw [List.mem_singleton.mp hz]
    exact fun w => ni (w ▸ hy)
  · rw [List.mem_append, List.mem_singleton, mm, takenI_mem, takenI_mem, plus_length]
    constructor
    · rintro (⟨s, rfl, h1, h2⟩ | rfl)
      · exact ⟨s, rfl, h1, (m.tk h1).mpr (.inl h2)⟩
      · exact ⟨_, rfl, lm, (m.tk lm).mpr (.inr rfl)⟩
    · rintro ⟨s, rfl, h1, h2⟩
      rcases (m.tk h1).mp h2 with z | z
      · exact .inl ⟨s, rfl, h1, z⟩
      · rw [z]; exact .inr rfl
structure Upto (c : List Int) (i j : Nat) (cc : List Int) : Prop where
  len : cc.length = c.length
  at_ : ∀ s, s < c.length → cc.getD s 0 = if s < i then c.getD s 0 else if s = i then (j : Int) else 0
theorem Upto.next {c cc : List Int} {i : Nat} (h : Upto c i (c.getD i 0).toNat cc) (nn : ∀ x ∈ c, 0 ≤ x) (hi : i < c.length) : Upto c (i + 1) 0 cc := by
  refine ⟨h.len, fun s hs => ?_⟩
  rw [h.at_ s hs]
  have z := nn _ (getD_mem hi)
  rcases Nat.lt_trichotomy s i with q | q | q
  · rw [if_pos q, if_pos (by omega)]
  · subst q
    rw [if_neg (Nat.lt_irrefl _), if_pos rfl, if_pos (by omega), Int.toNat_of_nonneg z]
  · rw [if_neg (by omega), if_neg (by omega), if_neg (by omega)]
    split <;> rfl
theorem Upto.plus {c cc : List Int} {i j : Nat} (h : Upto c i j cc) (hi : i < c.length) : Upto c i (j + 1) (plus cc i) := by
  have li : i < cc.length := by rw [h.len]; exact hi
  refine ⟨by rw [plus_length, h.len], fun s hs => ?_⟩
  unfold DL.plus
  by_cases e : s = i
  · subst e
    rw [List.getD_eq_getElem?_getD, List.getElem?_set_self li, if_neg (Nat.lt_irrefl _), if_pos rfl]
    show cc.getD s 0 + 1 = _
    rw [h.at_ s hs, if_neg (Nat.lt_irrefl _), if_pos rfl]
    omega
  · rw [List.getD_eq_getElem?_getD, List.getElem?_set_ne (fun z => e z.symm), ← List.getD_eq_getElem?_getD, h.at_ s hs, if_neg e, if_neg e]
theorem Upto.le {c cc : List Int} {i j : Nat} (h : Upto c i j cc) (nn : ∀ x ∈ c, 0 ≤ x) (hj : i < c.length → (j : Int) ≤ c.getD i 0) : ML.sumL cc ≤ ML.sumL c := by
  rw [ML.sumL_N, ML.sumL_N, h.len]
  refine ML.sumN_le fun s hs => ?_
  rw [h.at_ s hs]
  split
  · exact Int.le_refl _
  · split
    · rename_i e; subst e; exact hj hs
    · exact nn _ (getD_mem hs)
theorem Upto.lt {c cc : List Int} {i j : Nat} (h : Upto c i j cc) (nn : ∀ x ∈ c, 0 ≤ x) (hi : i < c.length) (hj : (j : Int) < c.getD i 0) : ML.sumL cc < ML.sumL c := by
  have z := (h.plus hi).le nn fun _ => by omega
  unfold DL.plus at z
  rw [sum_set (by rw [h.len]; exact hi)] at z
  omega
theorem Upto.nn {c cc : List Int} {i j : Nat} (h : Upto c i j cc) (nn : ∀ x ∈ c, 0 ≤ x) : ∀ x ∈ cc, 0 ≤ x := by
  intro x hx
  obtain ⟨s, hs⟩ := List.mem_iff_getElem?.mp hx
  have ls := (List.getElem?_eq_some_iff.mp hs).1
  rw [h.len] at ls
  have e := h.at_ s ls
  rw [List.getD_eq_getElem?_getD, hs] at e
  have e' : x = _ := e
  rw [e']
  split
  · exact nn _ (getD_mem ls)
  · split <;> omega
theorem Upto.cnt {c cc : List Int} {i j : Nat} (h : Upto c i j cc) (hc : Cnt c) (hj : i < c.length → (j : Int) ≤ c.getD i 0) : Cnt cc := by
  refine ⟨fun z => ?_, by rw [h.len]; exact hc.few, h.nn hc.nn, ?_⟩
  · have := h.len
    rw [z] at this
    exact hc.ne (List.length_eq_zero_iff.mp this.symm)
  · rw [h.len]
    exact Int.le_trans (h.le hc.nn hj) hc.room
theorem Upto.all {c cc : List Int} {j : Nat} (h : Upto c c.length j cc) : cc = c := getD_ext h.len fun s hs => by
  rw [h.len] at hs
  rw [h.at_ s hs, if_pos hs]
theorem scan_rep0 : ∀ n : Nat, ML.scan 0 (List.replicate n 0) = List.replicate n 0 ∧ ML.run 0 (List.replicate n 0) = 0
  | 0 => ⟨rfl, rfl⟩
  | n + 1 => by
    obtain ⟨a, b⟩ := scan_rep0 n
    rw [List.replicate_succ]
    have e : ML.step 0 0 = 0 := by decide
    constructor
    · show ML.step 0 0 :: ML.scan (ML.step 0 0) _ = _
      rw [e, a]
    · rw [ML.run_cons, e, b]
theorem flows_rep0 (n : Nat) : ML.flowsI (List.replicate n 0) = List.replicate n 0 := by
  unfold ML.flowsI
  rw [(scan_rep0 n).2, (scan_rep0 n).1]
end DL
namespace DL
open PySem PySem.Spec PyProof.Rows L2 LamX PySem.W SL
end DL
namespace ML
theorem Flow.bound {n : Nat} {c f : Nat → Int} (F : Flow n c f) (c0 : ∀ i, 0 ≤ c i) (cp : ∀ i, c (i + n) = c i) (n0 : 0 < n) (i : Nat) : f i ≤ sumN n c := by
  obtain ⟨z, hz⟩ := F.zero
  have up : ∀ k, f (z + k) ≤ sumN k (fun j => c (j + (z + 1))) := by
    intro k
    induction k with
    | zero => show f z ≤ 0; omega
    | succ k ih =>
      show f (z + (k + 1)) ≤ sumN k (fun j => c (j + (z + 1))) + c (k + (z + 1))
      have e := F.rec_ (z + k)
      have c1 := c0 (z + k + 1)
      have f1 := F.nn (z + k)
      rw [show z + (k + 1) = z + k + 1 by omega, e, show k + (z + 1) = z + k + 1 by omega]
      unfold step
      split <;> omega
  have mono : ∀ b a, a ≤ b → sumN a (fun j => c (j + (z + 1))) ≤ sumN b (fun j => c (j + (z + 1))) := by
    intro b
    induction b with
    | zero => intro a h; rw [Nat.le_zero.mp h]; exact Int.le_refl _
    | succ b ih =>
      intro a h
      rcases Nat.lt_or_ge a (b + 1) with q | q
      · have h1 := ih a (by omega)
        have h2 := c0 (b + (z + 1))
        show _ ≤ sumN b (fun j => c (j + (z + 1))) + c (b + (z + 1))
        omega
      · rw [show a = b + 1 by omega]; exact Int.le_refl _
  have e : i + n * (z + 1) = z + (i + n * (z + 1) - z) := by
    have : z + 1 ≤ n * (z + 1) := Nat.le_mul_of_pos_left _ n0
    omega
  -- the rest below n
  have key : ∀ k, f (z + k % n) = f (z + k) := fun k => by
    have := per_mul F.per (z + k % n) (k / n)
    rw [Nat.add_assoc, Nat.mod_add_div] at this
    exact this.symm
  rw [← per_mul F.per i (z + 1), e, ← key]
  refine Int.le_trans (up _) (Int.le_trans (mono n _ (Nat.le_of_lt (Nat.mod_lt _ n0))) ?_)
  rw [sumN_shifts cp]
  exact Int.le_refl _
end ML
namespace DL
open PySem PySem.Spec PyProof.Rows L2 LamX PySem.W SL
theorem Cnt.c0 {c : List Int} (h : Cnt c) (i : Nat) : 0 ≤ ML.cy c i := h.nn _ (getD_mem (Nat.mod_lt _ h.pos))
theorem Cnt.fl {c : List Int} (h : Cnt c) : ∀ x ∈ ML.flowsI c, 0 ≤ x ∧ x ≤ c.length := by
  intro x hx
  obtain ⟨i, hi⟩ := List.mem_iff_getElem?.mp hx
  have li := (List.getElem?_eq_some_iff.mp hi).1
  have e : ML.cy (ML.flowsI c) i = x := by rw [ML.cy_lt li, List.getD_eq_getElem?_getD, hi]; rfl
  have b := h.flow.bound h.c0 (ML.cy_per c) h.pos i
  have n := h.flow.nn i
  rw [e] at b n
  rw [← ML.sumL_cy] at b
  have := h.room
  omega
theorem Cnt.smF {c : List Int} (h : Cnt c) (l : c.length ≤ 64) : Sm 1 1411 (rowD (ML.flowsI c)) :=
  sm_row (m := 64) (fun x hx => by have := h.fl x hx; omega) (by rw [ML.flowsI_length]; exact l)
theorem Cnt.sm {c : List Int} (h : Cnt c) (l : c.length ≤ 64) : Sm 1 1411 (rowD c) :=
  sm_row (m := 64) (fun x hx => by have := h.nn x hx; have := h.le hx; omega) l
theorem Cnt.step {c : List Int} (h : Cnt c) {i : Nat} (hi : i < c.length) : (ML.flowsI c).getD i 0 = ML.step (ML.cy (ML.flowsI c) (i + (c.length - 1))) (c.getD i 0) := by
  have z := h.flow.rec_ (i + (c.length - 1))
  rw [show i + (c.length - 1) + 1 = i + c.length by omega, h.flow.per, ML.cy_per, ML.cy_lt hi, ML.cy_lt (by rw [ML.flowsI_length]; exact hi)] at z
  exact z
end DL
namespace DL
open PySem PySem.Spec PyProof.Rows L2 LamX PySem.W SL
theorem takenI_asc (c : List Int) : (takenI c).Pairwise (· < ·) := by
  unfold takenI
  refine List.Pairwise.map _ (fun a b h => ?_) (List.Pairwise.filter _ List.pairwise_lt_range)
  omega
theorem sorted_lt_le {xs : List Int} (h : xs.Pairwise (· < ·)) : xs.Pairwise (· ≤ ·) := h.imp fun h => Int.le_of_lt h
theorem Full.sorted {c : List Int} {kvs : List (Key × D)} (f : Full c kvs) : ∃ ks : List Int, kvs.map (·.1) = ks.map Sum.inl ∧ ∀ out : List Int, out.Perm ks → out.Pairwise (· ≤ ·) → out = takenI c := by
  obtain ⟨ks, e, nd, m⟩ := f.ex
  refine ⟨ks, e, fun out p so => sorted_one (p.trans ?_) so (sorted_lt_le (takenI_asc c))⟩
  exact (List.perm_ext_iff_of_nodup nd (asc_nodup (takenI_asc c))).mpr m
theorem sum_addL {F : List Int} {a L : Nat} (ha : a < F.length) (hL : L ≤ F.length) : ML.sumL (addL F a L) = ML.sumL F + L := by
  rw [ML.sumL_N, addL_length, ML.sumL_N]
  have e : ML.sumN F.length (fun i => (addL F a L).getD i 0) = ML.sumN F.length (ML.addF F.length a L fun i => F.getD i 0) := ML.sumN_congr fun i h => by rw [addL_at h]; rfl
  rw [e, ML.sum_addF ha hL]
theorem More.sum {c : List Int} {a L : Nat} (m : More c a L) : ML.sumL (ML.flowsI (plus c a)) = ML.sumL (ML.flowsI c) + L := by
  have lF := ML.flowsI_length c
  rw [m.flows, sum_addL (by rw [lF]; exact m.ha) (by rw [lF]; exact Nat.le_of_lt m.pas.lt)]
end DL
namespace DL
open PySem PySem.Spec PyProof.Rows L2 LamX PySem.W SL
end DL
namespace DL
open PySem PySem.Spec PyProof.Rows L2 LamX PySem.W SL
end DL
namespace DL
open PySem PySem.Spec PyProof.Rows L2 LamX PySem.W SL
theorem sumL_range (m : Nat) (g : Nat → Int) : ML.sumL ((List.range m).map g) = ML.sumN m g := by
  induction m with
  | zero => rfl
  | succ m ih =>
    rw [List.range_succ, List.map_append, ML.sumL_append, ih]
    show _ + (g m + 0) = _ + g m
    omega
theorem sumL_flat {α : Type} (l : List α) (f : α → List Int) : ML.sumL (l.flatMap f) = ML.sumL (l.map fun x => ML.sumL (f x)) := by
  induction l with
  | nil => rfl
  | cons x r ih =>
    rw [List.flatMap_cons, ML.sumL_append, ih]
    rfl
theorem sumN_more {m m' : Nat} {g h : Nat → Int} (le : m ≤ m') (gh : ∀ i, i < m → g i ≤ h i) (h0 : ∀ i, 0 ≤ h i) : ML.sumN m g ≤ ML.sumN m' h := by
  induction m' with
  | zero => rw [Nat.le_zero.mp le]; exact Int.le_refl _
  | succ k ih =>
    show ML.sumN m g ≤ ML.sumN k h + h k
    rcases Nat.lt_or_ge m (k + 1) with q | q
    · have := ih (by omega)
      have := h0 k
      omega
    · have e : m = k + 1 := by omega
      subst e
      show ML.sumN k g + g k ≤ _
      have := ML.sumN_le (n := k) fun i hi => gh i (by omega)
      have := gh k (by omega)
      omega
theorem sqSum_waits (c : List Int) : sqSum (waitsI c) = ML.sumN c.length fun s => ML.sumN (c.getD s 0).toNat fun k => (ML.cy (ML.flowsI c) (s + (c.length - 1)) + (k : Int)) * (ML.cy (ML.flowsI c) (s + (c.length - 1)) + (k : Int)) := by
  unfold sqSum waitsI
  rw [List.map_flatMap, sumL_flat, sumL_range]
  refine ML.sumN_congr fun s _ => ?_
  rw [List.map_map, ← sumL_range]
  rfl
theorem sq_mono {a b : Int} (h0 : 0 ≤ a) (h : a ≤ b) : a * a ≤ b * b := Int.mul_le_mul h h h0 (Int.le_trans h0 h)
theorem More.flow_le {c : List Int} {a L : Nat} (m : More c a L) (i : Nat) : ML.cy (ML.flowsI c) i ≤ ML.cy (ML.flowsI (plus c a)) i := by
  have lF := ML.flowsI_length c
  have n0 := m.hc.pos
  unfold ML.cy
  rw [m.flows, addL_length, lF]
  have lm := Nat.mod_lt i n0
  rw [addL_at (by rw [lF]; exact lm)]
  split <;> omega
theorem plus_ge {c : List Int} {a : Nat} (ha : a < c.length) {s : Nat} (hs : s < c.length) : c.getD s 0 ≤ (plus c a).getD s 0 := by
  unfold plus
  by_cases e : s = a
  · subst e
    rw [List.getD_eq_getElem?_getD (l := c.set s _), List.getElem?_set_self hs]
    show _ ≤ c.getD s 0 + 1
    omega
  · rw [List.getD_eq_getElem?_getD (l := c.set a _), List.getElem?_set_ne (fun z => e z.symm), ← List.getD_eq_getElem?_getD]
    exact Int.le_refl _
theorem More.sq {c : List Int} {a L : Nat} (m : More c a L) : sqSum (waitsI c) ≤ sqSum (waitsI (plus c a)) := by
  rw [sqSum_waits, sqSum_waits, plus_length]
  refine ML.sumN_le fun s hs => ?_
  have pg := plus_ge m.ha hs
  refine sumN_more (by omega) (fun k _ => sq_mono ?_ ?_) fun k => ?_
  · have := m.hc.flow.nn (s + (c.length - 1)); omega
  · have := m.flow_le (s + (c.length - 1)); omega
  · have f0 := (plus_cnt m.hc m.ha m.lt).flow.nn (s + (c.length - 1))
    exact Int.mul_nonneg (by omega) (by omega)
end DL
namespace DL
open PySem PySem.Spec PyProof.Rows L2 LamX PySem.W SL
def Dn (a b x y : Nat) : Prop := x < y ∧ (x < a ∨ (x = a ∧ y < b))
structure Half (m a b : Nat) (rs : List (List Int)) : Prop where
  len : rs.length = m
  nd : ∀ x, x < m → (rs.getD x []).Nodup
  inr : ∀ x, x < m → ∀ z ∈ rs.getD x [], ∃ y : Nat, y < m ∧ z = (y : Int) ∧ (Dn a b x y ∨ Dn a b y x)
  one : ∀ x y, x < m → y < m → Dn a b x y → ((y : Int) ∈ rs.getD x [] ↔ ¬ (x : Int) ∈ rs.getD y [])
theorem Half.congr {m a b c d : Nat} {rs : List (List Int)} (h : Half m a b rs) (e : ∀ x y, x < m → y < m → (Dn a b x y ↔ Dn c d x y)) : Half m c d rs :=
  ⟨h.len, h.nd, fun x hx z hz => by
    obtain ⟨y, hy, ez, q⟩ := h.inr x hx z hz
    exact ⟨y, hy, ez, q.imp (e x y hx hy).mp (e y x hy hx).mp⟩, fun x y hx hy q => h.one x y hx hy ((e x y hx hy).mpr q)⟩
theorem Half.start (m : Nat) : Half m 0 0 (List.replicate m []) := by
  have z : ∀ x, (List.replicate m ([] : List Int)).getD x [] = [] := fun x => by
    rw [List.getD_eq_getElem?_getD, List.getElem?_replicate]
    split <;> rfl
  refine ⟨by simp, fun x hx => by rw [z]; exact List.nodup_nil, fun x hx y hy => ?_, fun x y hx hy q => ?_⟩
  · rw [z] at hy
    cases hy
  · unfold Dn at q
    omega
theorem mem_setD {rs : List (List Int)} {u x : Nat} {v z : Int} (h : u < rs.length) : z ∈ (rs.set u (rs.getD u [] ++ [v])).getD x [] ↔ z ∈ rs.getD x [] ∨ (x = u ∧ z = v) := by
  by_cases e : x = u
  · subst e
    rw [List.getD_eq_getElem?_getD (l := rs.set _ _), List.getElem?_set_self h]
    show z ∈ rs.getD x [] ++ [v] ↔ _
    rw [List.mem_append, List.mem_singleton]
    simp
  · rw [List.getD_eq_getElem?_getD (l := rs.set _ _), List.getElem?_set_ne (fun w => e w.symm), ← List.getD_eq_getElem?_getD]
    simp [e]
theorem Half.step {m a b u v : Nat} {rs : List (List Int)} (h : Half m a b rs) (ab : a < b) (hb : b < m) (uv : (u = a ∧ v = b) ∨ (u = b ∧ v = a)) : Half m a (b + 1) (rs.set u (rs.getD u [] ++ [(v : Int)])) := by
  have hu : u < rs.length := by rw [h.len]; omega
  have nv : ¬ (v : Int) ∈ rs.getD u [] := fun z => by
    obtain ⟨y, hy, ez, q⟩ := h.inr u (by omega) _ z
    unfold Dn at q
    omega
  have nu : ¬ (u : Int) ∈ rs.getD v [] := fun z => by
    obtain ⟨y, hy, ez, q⟩ := h.inr v (by omega) _ z
    unfold Dn at q
    omega
  refine ⟨by rw [List.length_set]; exact h.len, fun x hx => ?_, fun x hx z hz => ?_, fun x y hx hy q => ?_⟩
  · by_cases e : x = u
    · subst e
      rw [List.getD_eq_getElem?_getD (l := rs.set _ _), List.getElem?_set_self hu]
      show (rs.getD x [] ++ [(v : Int)]).Nodup
      rw [List.nodup_append]
      refine ⟨h.nd x hx, by simp, fun a ha b hb => ?_⟩
      rw [List.mem_singleton.mp hb]
      rintro rfl
      exact nv ha
    · rw [List.getD_eq_getElem?_getD (l := rs.set _ _), List.getElem?_set_ne (fun w => e w.symm), ← List.getD_eq_getElem?_getD]
      exact h.nd x hx
  · rcases (mem_setD hu).mp hz with q | ⟨e1, e2⟩
    · obtain ⟨y, hy, ez, q⟩ := h.inr x hx z q
      refine ⟨y, hy, ez, ?_⟩
      unfold Dn at q ⊢
      omega
    · refine ⟨v, by omega, e2, ?_⟩
      unfold Dn
      omega
  · rw [mem_setD hu, mem_setD hu]
    by_cases e : x = a ∧ y = b
    · obtain ⟨rfl, rfl⟩ := e
      rcases uv with ⟨rfl, rfl⟩ | ⟨rfl, rfl⟩
      · constructor
        · rintro _ (z | ⟨z, _⟩)
          · exact nu z
          · omega
        · exact fun _ => .inr ⟨rfl, rfl⟩
      · constructor
        · rintro (z | ⟨z, _⟩) _
          · exact nu z
          · omega
        · exact fun z => absurd (.inr ⟨rfl, rfl⟩) z
    · have q' : Dn a b x y := by unfold Dn at q ⊢; omega
      have z := h.one x y hx hy q'
      have w1 : ¬ (x = u ∧ (y : Int) = (v : Int)) := fun w => by unfold Dn at q'; omega
      have w2 : ¬ (y = u ∧ (x : Int) = (v : Int)) := fun w => by unfold Dn at q'; omega
      simp only [w1, w2, or_false]
      exact z
theorem Half.tb {m : Nat} {rs : List (List Int)} (h : Half m m m rs) : Tb m (rs.map sortI) := by
  have g : ∀ x, x < m → (rs.map sortI).getD x [] = sortI (rs.getD x []) := fun x hx => by
    rw [List.getD_eq_getElem?_getD, List.getElem?_map, List.getD_eq_getElem?_getD, List.getElem?_eq_getElem (by rw [h.len]; exact hx)]
    rfl
  have mm : ∀ x, x < m → ∀ z, z ∈ (rs.map sortI).getD x [] ↔ z ∈ rs.getD x [] := fun x hx z => by rw [g x hx, (sortI_perm _).mem_iff]
  refine ⟨by rw [List.length_map]; exact h.len, fun x hx => ?_, fun x hx z hz => ?_, fun x y hx hy => ?_⟩
  · rw [g x hx]
    exact sort_asc (h.nd x hx)
  · obtain ⟨y, hy, ez, _⟩ := h.inr x hx z ((mm x hx z).mp hz)
    omega
  · unfold dec
    by_cases e : x = y
    · rw [if_pos e]
      have z : ¬ (x : Int) ∈ (rs.map sortI).getD x [] := fun q => by
        obtain ⟨y, hy, ez, q⟩ := h.inr x hx _ ((mm x hx _).mp q)
        unfold Dn at q
        omega
      rw [decide_eq_false z]
      rfl
    · rw [if_neg e]
      simp only [mm x hx, mm y hy]
      have z : ((y : Int) ∈ rs.getD x [] ↔ ¬ (x : Int) ∈ rs.getD y []) := by
        rcases Nat.lt_or_gt_of_ne e with q | q
        · exact h.one x y hx hy ⟨q, .inl hx⟩
        · have := h.one y x hy hx ⟨q, .inl hy⟩
          constructor
          · exact fun a b => this.mp b a
          · exact fun a => Classical.byContradiction fun b => a (this.mpr b)
      by_cases q : (x : Int) ∈ rs.getD y []
      · rw [decide_eq_true q, decide_eq_false fun w => z.mp w q]; rfl
      · rw [decide_eq_false q, decide_eq_true (z.mpr q)]; rfl
theorem fin_lst {Q : DK} {acc : List D} {st : DSt} (q : Q (.lst acc) st) : finT Q acc st := q
end DL
namespace DL
open PySem PySem.Spec PyProof.Rows L2 LamX PySem.W SL
theorem Hist.left {m n : Nat} {a b : List Nat} (h : Hist m n (a ++ b)) : Hist m n a := by
  have nd := h.nd
  have fw := h.few
  rw [List.nodup_append] at nd
  rw [List.length_append] at fw
  exact ⟨nd.1, fun k hk => h.lt k (List.mem_append_left _ hk), by omega⟩
theorem nrT {xs : List D} : ∀ n, (.tup xs : D) ≠ .ref n := fun n h => by cases h
theorem sm_lay {m n : Nat} {sl : List Int} (L : Lay m n sl) (m16 : m ≤ 60) (n16 : n ≤ 60) : Sm 1 1323 (rowD sl) := sm_row (m := 60) (fun x hx => by have := L.rng x hx; omega) (by rw [L.len]; exact n16)
end DL
namespace DL
open PySem PySem.Spec PyProof.Rows L2 LamX PySem.W SL
section
variable {T : List (Addr × Str)} {X : Cx} {a b : Expr} {fa fb : DTE} {pos : Pos}
end
end DL
namespace DL
open PySem PySem.Spec PyProof.Rows L2 LamX PySem.W SL
def onT (x : D) (k : List D → Prop) : Prop := match x with | .tup xs => k xs | _ => False
theorem onT.of {x : D} {k : List D → Prop} (h : onT x k) : ∃ xs, x = .tup xs ∧ k xs := by
  cases x with
  | tup xs => exact ⟨xs, rfl, h⟩
  | _ => exact h.elim
section
variable {T : List (Addr × Str)} {X : Cx}
end
end DL
namespace DL
open PySem PySem.Spec PyProof.Rows L2 LamX PySem.W SL
def F_require_ordered (g_ring_at : DRs) : DTS := (sFor (wRng1 (daCons (dCB dLen (daCons (dVar 0) daNil)) daNil)) (gNm 1) (sIf (dTest (dNotN (dCB g_ring_at (daCons (dVar 0) (daCons (dVar 1) daNil))))) sNever sNext))
def F_law_v7 (g__law_pool : DRs) (g__law_right : DRs) : DTS := (sRet (dCB dAll (daCons (dLcG (wRng1 (daCons (dCB dMax2 (daCons (dC (.int 1)) (daCons (dCB dMin2 (daCons (dC (.int 2)) (daCons (dCB dLen (daCons (dVar 0) daNil)) daNil))) daNil))) daNil)) (gNm 1) dtYes (dCB g__law_right (daCons (dCB g__law_pool (daCons (dVar 0) (daCons (dVar 1) daNil))) daNil)) [1] finT) daNil)))
end DL
namespace DL
open PySem PySem.Spec PyProof.Rows L2 LamX PySem.W SL
end DL
namespace DL
open PySem PySem.Spec PyProof.Rows L2 LamX PySem.W SL
structure HalfR (m : Nat) (E : Nat → Nat → Prop) (rs : List (List Int)) : Prop where
  len : rs.length = m
  nd : ∀ x, x < m → (rs.getD x []).Nodup
  inr : ∀ x, x < m → ∀ z ∈ rs.getD x [], ∃ y : Nat, y < m ∧ z = (y : Int) ∧ (E x y ∨ E y x)
  one : ∀ x y, x < m → y < m → E x y → ((y : Int) ∈ rs.getD x [] ↔ ¬ (x : Int) ∈ rs.getD y [])
section
variable {m : Nat} {E F : Nat → Nat → Prop} {rs : List (List Int)}
theorem HalfR.congr (h : HalfR m E rs) (e : ∀ x y, x < m → y < m → (E x y ↔ F x y)) : HalfR m F rs :=
  ⟨h.len, h.nd, fun x hx z hz => by
    obtain ⟨y, hy, ez, q⟩ := h.inr x hx z hz
    exact ⟨y, hy, ez, q.imp (e x y hx hy).mp (e y x hy hx).mp⟩, fun x y hx hy q => h.one x y hx hy ((e x y hx hy).mpr q)⟩
theorem HalfR.start (m : Nat) (E : Nat → Nat → Prop) (no : ∀ x y, ¬ E x y) : HalfR m E (List.replicate m []) := by
  have z : ∀ x, (List.replicate m ([] : List Int)).getD x [] = [] := fun x => by
    rw [List.getD_eq_getElem?_getD, List.getElem?_replicate]
    split <;> rfl
  refine ⟨by simp, fun x hx => by rw [z]; exact List.nodup_nil, fun x hx y hy => ?_, fun x y hx hy q => absurd q (no x y)⟩
  rw [z] at hy
  cases hy
theorem HalfR.step {a b u v : Nat} (h : HalfR m E rs) (ab : a ≠ b) (ha : a < m) (hb : b < m) (n1 : ¬ E a b) (n2 : ¬ E b a) (uv : (u = a ∧ v = b) ∨ (u = b ∧ v = a)) : HalfR m (fun x y => E x y ∨ (x = a ∧ y = b)) (rs.set u (rs.getD u [] ++ [(v : Int)])) := by
  have hum : u < m := by omega
  have hvm : v < m := by omega
  have hu : u < rs.length := by rw [h.len]; exact hum
  have no : ¬ E u v ∧ ¬ E v u := by
    rcases uv with ⟨rfl, rfl⟩ | ⟨rfl, rfl⟩
    · exact ⟨n1, n2⟩
    · exact ⟨n2, n1⟩
  have nv : ¬ (v : Int) ∈ rs.getD u [] := fun z => by
    obtain ⟨y, hy, ez, q⟩ := h.inr u hum _ z
    have : y = v := by omega
    subst this
    exact q.elim no.1 no.2
  have nu : ¬ (u : Int) ∈ rs.getD v [] := fun z => by
    obtain ⟨y, hy, ez, q⟩ := h.inr v hvm _ z
    have : y = u := by omega
    subst this
    exact q.elim no.2 no.1
  refine ⟨by rw [List.length_set]; exact h.len, fun x hx => ?_, fun x hx z hz => ?_, fun x y hx hy q => ?_⟩
  · by_cases e : x = u
    · subst e
      rw [List.getD_eq_getElem?_getD (l := rs.set _ _), List.getElem?_set_self hu]
      show (rs.getD x [] ++ [(v : Int)]).Nodup
      rw [List.nodup_append]
      refine ⟨h.nd x hx, by simp, fun a ha b hb => ?_⟩
      rw [List.mem_singleton.mp hb]
      rintro rfl
      exact nv ha
    · rw [List.getD_eq_getElem?_getD (l := rs.set _ _), List.getElem?_set_ne (fun w => e w.symm), ← List.getD_eq_getElem?_getD]
      exact h.nd x hx
  · rcases (mem_setD hu).mp hz with q | ⟨e1, e2⟩
    · obtain ⟨y, hy, ez, q⟩ := h.inr x hx z q
      exact ⟨y, hy, ez, q.imp .inl .inl⟩
    · refine ⟨v, hvm, e2, ?_⟩
      rcases uv with ⟨rfl, rfl⟩ | ⟨rfl, rfl⟩
      · exact .inl (.inr ⟨e1, rfl⟩)
      · exact .inr (.inr ⟨rfl, e1⟩)
  · rw [mem_setD hu, mem_setD hu]
    by_cases e : x = a ∧ y = b
    · obtain ⟨rfl, rfl⟩ := e
      rcases uv with ⟨rfl, rfl⟩ | ⟨rfl, rfl⟩
      · constructor
        · rintro _ (z | ⟨z, _⟩)
          · exact nu z
          · exact ab z.symm
        · exact fun _ => .inr ⟨rfl, rfl⟩
      · constructor
        · rintro (z | ⟨z, _⟩) _
          · exact nu z
          · exact ab z
        · exact fun z => absurd (.inr ⟨rfl, rfl⟩) z
    · have q' : E x y := q.elim id fun w => absurd w e
      have z := h.one x y hx hy q'
      have w1 : ¬ (x = u ∧ (y : Int) = (v : Int)) := fun w => by
        have : y = v := by omega
        rw [w.1, this] at q'
        exact no.1 q'
      have w2 : ¬ (y = u ∧ (x : Int) = (v : Int)) := fun w => by
        have : x = v := by omega
        rw [w.1, this] at q'
        exact no.2 q'
      simp only [w1, w2, or_false]
      exact z
theorem HalfR.few (h : HalfR m E rs) {u : Nat} (hu : u < m) : (rs.getD u []).length ≤ m := by
  have z := sub_len (ys := DL.R m) (h.nd u hu) fun x hx => by
    obtain ⟨y, hy, ez, _⟩ := h.inr u hu x hx
    rw [R_mem]
    omega
  rw [R_length] at z
  exact z
theorem HalfR.tb (h : HalfR m E rs) (all : ∀ x y, x < m → y < m → x ≠ y → E x y ∨ E y x) (irr : ∀ x, ¬ E x x) : Tb m (rs.map sortI) := by
  refine Half.tb ⟨h.len, h.nd, fun x hx z hz => ?_, fun x y hx hy q => ?_⟩
  · obtain ⟨y, hy, ez, q⟩ := h.inr x hx z hz
    have ne : x ≠ y := fun e => by
      subst e
      exact q.elim (irr x) (irr x)
    refine ⟨y, hy, ez, ?_⟩
    unfold Dn
    omega
  · unfold Dn at q
    rcases all x y hx hy (by omega) with e | e
    · exact h.one x y hx hy e
    · have := h.one y x hy hx e
      constructor
      · exact fun a b => this.mp b a
      · exact fun a => Classical.byContradiction fun b => a (this.mpr b)
end
def Along (hs : List Nat) (a b x y : Nat) : Prop := ∃ i j, i < j ∧ hs[i]? = some x ∧ hs[j]? = some y ∧ (i < a ∨ (i = a ∧ j < b))
theorem Along.step {hs : List Nat} (nd : hs.Nodup) {a b u v x y : Nat} (ab : a < b) (hu : hs[a]? = some u) (hv : hs[b]? = some v) : (Along hs a b x y ∨ (x = u ∧ y = v)) ↔ Along hs a (b + 1) x y := by
  constructor
  · rintro (⟨i, j, ij, h1, h2, q⟩ | ⟨rfl, rfl⟩)
    · exact ⟨i, j, ij, h1, h2, by omega⟩
    · exact ⟨a, b, ab, hu, hv, by omega⟩
  · rintro ⟨i, j, ij, h1, h2, q⟩
    by_cases e : i = a ∧ j = b
    · obtain ⟨rfl, rfl⟩ := e
      rw [hu] at h1
      rw [hv] at h2
      exact .inr ⟨(Option.some.inj h1).symm, (Option.some.inj h2).symm⟩
    · exact .inl ⟨i, j, ij, h1, h2, by omega⟩
end DL
namespace DL
open PySem PySem.Spec PyProof.Rows L2 LamX PySem.W SL
structure Rul (m n : Nat) (R : List (List (List Int))) : Prop where
  len : R.length = n
  tb : ∀ t ∈ R, Tb m t
  m0 : 1 ≤ m
  m16 : m ≤ 16
  n0 : 1 ≤ n
  n16 : n ≤ 16
theorem Rul.at0 {m n : Nat} {R : List (List (List Int))} (W : Rul m n R) : atI (R.map rowsD) 0 = some (.tup ((R.getD 0 []).map rowD)) ∧ (R.getD 0 []).length = m := by
  have lR := W.len
  have n0 := W.n0
  have h := List.getElem?_eq_getElem (l := R) (i := 0) (by omega)
  have e : R.getD 0 [] = R[0] := by rw [List.getD_eq_getElem?_getD, h]; rfl
  rw [e]
  exact ⟨at_map (i := 0) h, (W.tb _ (List.getElem_mem _)).len⟩
theorem ring_at_ {m : Nat} {t : List (List Int)} (tb : Tb m t) {a b c : Int} (r : Ring t a b c) : (0 ≤ a ∧ a < m) ∧ (0 ≤ b ∧ b < m) ∧ (0 ≤ c ∧ c < m) ∧ atI (t.map rowD) a = some (rowD (t.getD a.toNat [])) ∧ atI (t.map rowD) b = some (rowD (t.getD b.toNat [])) ∧ atI (t.map rowD) c = some (rowD (t.getD c.toNat [])) := by
  obtain ⟨a0, a1, hb, hc, ha⟩ := r
  rw [tb.len] at a1
  have b1 := tb.mem a0 a1 hb
  have c1 := tb.mem b1.1 b1.2 hc
  exact ⟨⟨a0, a1⟩, b1, c1, tb.at_ a0 a1, tb.at_ b1.1 b1.2, tb.at_ c1.1 c1.2⟩
end DL
namespace DL
open PySem PySem.Spec PyProof.Rows L2 LamX PySem.W SL
theorem enum_dropG {xs : List D} {i : Nat} {d : D} {ds : List D} (h : d :: ds = (enumD xs).drop i) : ∃ x, xs[i]? = some x ∧ d = .tuk [.int (i : Nat), x] ∧ ds = (enumD xs).drop (i + 1) := by
  obtain ⟨e, _, e2⟩ := drop_cons h.symm
  obtain ⟨x, ex, rfl⟩ := enumD_get e
  exact ⟨x, ex, rfl, e2.symm⟩
end DL
namespace DL
open PySem PySem.Spec PyProof.Rows L2 LamX PySem.W SL
end DL
namespace DL
open PySem PySem.Spec PyProof.Rows L2 LamX PySem.W SL
def Trn (m n : Nat) (R : List (List (List Int))) : Prop := ∀ s a b c, s < n → a < m → b < m → c < m → bt R s a b = true → bt R s b c = true → bt R s a c = true
section
variable {m n : Nat} {P : List (List Int)} {R : List (List (List Int))}
theorem Setg.trn (S : Setg m n P R) (all : ∀ t ∈ R, noRing t = true) : Trn m n R := fun s a b c hs ha hb hc h1 h2 => by
  have tb := S.tb hs
  have no := all _ (getD_memL (d := []) (by rw [S.rl]; exact hs) : R.getD s [] ∈ R)
  unfold bt at h1 h2 ⊢
  have h1' := of_decide_eq_true h1
  have h2' := of_decide_eq_true h2
  exact decide_eq_true (tb.trans no ha hb hc h1' h2')
def Stb (P : List (List Int)) (R : List (List (List Int))) (sl : List Int) : Prop := ∀ s k, At sl s k → ∀ j, j < rk P k s → ∀ k', At sl (pr P k j) k' → bt R (pr P k j) k' k = true
def AskB (P : List (List Int)) (R : List (List (List Int))) (sl : List Int) (a i : Nat) : Prop := ∀ j, j < i → ∀ k', At sl (pr P a j) k' → bt R (pr P a j) k' a = true
theorem pr_ne (S : Setg m n P R) {a i j : Nat} (ha : a < m) (hi : i < n) (hj : j < n) (ne : j ≠ i) : pr P a j ≠ pr P a i := fun e => by
  have := S.rk_pr ha hj
  rw [e, S.rk_pr ha hi] at this
  exact ne this.symm
theorem insG_stb (S : Setg m n P R) (T : Trn m n R) : ∀ (f : Nat) (sl : List Int) (a i : Nat) (L : List Int) (p : List (Nat × Nat)), Go m n P sl a i → Stb P R sl → AskB P R sl a i → insG P R f sl a i = some (L, p) → Stb P R L
  | 0, sl, a, i, L, p, G, _, _, h => by cases h
  | f + 1, sl, a, i, L, p, G, st, ak, h => by
    have ls := (S.pr_at G.ha G.hi).2
    have ls' : pr P a i < sl.length := by rw [G.g.lay.len]; exact ls
    rcases G.g.lay.either ls with e | ⟨k, tk⟩
    · rw [insG_free e] at h
      cases h
      intro s x hx j lj x' hx'
      rcases (at_set ls').mp hx with ⟨rfl, rfl⟩ | ⟨ne, hx⟩
      · rw [S.rk_pr G.ha G.hi] at lj
        rcases (at_set ls').mp hx' with ⟨z, _⟩ | ⟨_, hx'⟩
        · exact absurd z (pr_ne S G.ha G.hi (by have := G.hi; omega) (by omega))
        · exact ak j lj x' hx'
      · rcases (at_set ls').mp hx' with ⟨z, _⟩ | ⟨_, hx'⟩
        · obtain ⟨y, hy⟩ := G.g.ah s x hx j lj
          rw [z] at hy
          exact absurd e hy.ne
        · exact st s x hx j lj x' hx'
    · have hk := (G.g.lay.key tk).1
      have ak' : a ≠ k := fun z => by subst z; exact G.fr _ tk
      rw [insG_taken tk] at h
      by_cases b : bt R (pr P a i) a k = true
      · rw [if_pos b] at h
        obtain ⟨⟨L2, p2⟩, h2, h3⟩ := Option.map_eq_some_iff.mp h
        cases h3
        have pk := S.pr_rk hk ls
        have lr := (S.rk_at hk ls).2.1
        refine insG_stb S T f _ _ _ _ p2 (G.swap S tk) ?_ ?_ h2
        · intro s x hx j lj x' hx'
          rcases (at_set ls').mp hx with ⟨rfl, rfl⟩ | ⟨ne, hy⟩
          · rw [S.rk_pr G.ha G.hi] at lj
            rcases (at_set ls').mp hx' with ⟨z, _⟩ | ⟨_, hx'⟩
            · exact absurd z (pr_ne S G.ha G.hi (by have := G.hi; omega) (by omega))
            · exact ak j lj x' hx'
          · rcases (at_set ls').mp hx' with ⟨z, ex⟩ | ⟨_, hx'⟩
            · rw [z, ex]
              have q := st s x hy j lj k (by rw [z]; exact tk)
              rw [z] at q
              exact T _ _ _ _ ls G.ha hk (G.g.lay.key hy).1 b q
            · exact st s x hy j lj x' hx'
        · intro j lj x' hx'
          rcases Nat.lt_or_ge j (rk P k (pr P a i)) with w | w
          · rcases (at_set ls').mp hx' with ⟨z, _⟩ | ⟨_, hx'⟩
            · have := S.rk_pr hk (i := j) (by omega)
              rw [z] at this
              omega
            · exact st _ k tk j w x' hx'
          · rw [show j = rk P k (pr P a i) by omega, pk] at hx' ⊢
            rcases (at_set ls').mp hx' with ⟨_, rfl⟩ | ⟨z, _⟩
            · exact b
            · exact absurd rfl z
      · rw [if_neg b] at h
        refine insG_stb S T f _ _ _ L p (G.on S tk) st ?_ h
        intro j lj x' hx'
        rcases Nat.lt_or_ge j i with w | w
        · exact ak j w x' hx'
        · rw [show j = i by omega] at hx' ⊢
          rw [hx'.one tk, S.bt_not ls hk G.ha ak'.symm]
          simpa using b
structure Fix (m n : Nat) (P : List (List Int)) (R : List (List (List Int))) (K : Nat → Prop) (M : List Int) : Prop where
  g : Good m n P M
  ks : ∀ k, K k → ∃ s, At M s k
  st : Stb P R M
def Below (P : List (List Int)) (K : Nat → Prop) (M sl : List Int) : Prop := ∀ s k, At sl s k → K k ∧ ∀ u, At M u k → rk P k s ≤ rk P k u
theorem lose (S : Setg m n P R) {K : Nat → Prop} {M : List Int} (F : Fix m n P R K M) {t w x : Nat} (ht : t < n) (hw : w < m) (hx : x < m) (ne : w ≠ x) (kw : K w) (b : bt R t w x = true) (lw : ∀ u, At M u w → rk P w t ≤ rk P w u) : ¬ At M t x := fun hM => by
  obtain ⟨v, hv⟩ := F.ks w kw
  have hvn := (F.g.lay.key hv).2
  have vt : v ≠ t := fun z => by rw [z] at hv; exact ne (hv.one hM)
  have l1 := lw v hv
  have l2 : rk P w t ≠ rk P w v := fun z => vt (S.rk_inj hw ht hvn z).symm
  have q := F.st v w hv (rk P w t) (by omega) x (by rw [S.pr_rk hw ht]; exact hM)
  rw [S.pr_rk hw ht, S.bt_not ht hx hw ne.symm, b] at q
  cases q
theorem insG_below (S : Setg m n P R) {K : Nat → Prop} {M : List Int} (F : Fix m n P R K M) : ∀ (f : Nat) (sl : List Int) (a i : Nat) (L : List Int) (p : List (Nat × Nat)), Go m n P sl a i → Below P K M sl → K a → (∀ u, At M u a → i ≤ rk P a u) → insG P R f sl a i = some (L, p) → Below P K M L
  | 0, sl, a, i, L, p, G, _, _, _, h => by cases h
  | f + 1, sl, a, i, L, p, G, bl, ka, la, h => by
    have ls := (S.pr_at G.ha G.hi).2
    have ls' : pr P a i < sl.length := by rw [G.g.lay.len]; exact ls
    have ra := S.rk_pr G.ha G.hi
    have put : Below P K M (sl.set (pr P a i) (a : Int)) := fun s x hx => by
      rcases (at_set ls').mp hx with ⟨rfl, rfl⟩ | ⟨_, hx⟩
      · rw [ra]; exact ⟨ka, la⟩
      · exact bl s x hx
    rcases G.g.lay.either ls with e | ⟨k, tk⟩
    · rw [insG_free e] at h
      cases h
      exact put
    · have hk := (G.g.lay.key tk).1
      have ak' : a ≠ k := fun z => by subst z; exact G.fr _ tk
      obtain ⟨kk, lk⟩ := bl _ _ tk
      rw [insG_taken tk] at h
      by_cases b : bt R (pr P a i) a k = true
      · rw [if_pos b] at h
        obtain ⟨⟨L2, p2⟩, h2, h3⟩ := Option.map_eq_some_iff.mp h
        cases h3
        refine insG_below S F f _ _ _ _ p2 (G.swap S tk) put kk (fun u hu => ?_) h2
        have l1 := lk u hu
        have no := lose S F ls G.ha hk ak' ka b (fun u hu => by rw [ra]; exact la u hu)
        have l2 : rk P k (pr P a i) ≠ rk P k u := fun z => no (by rw [S.rk_inj hk ls (F.g.lay.key hu).2 z]; exact hu)
        omega
      · rw [if_neg b] at h
        refine insG_below S F f _ _ _ L p (G.on S tk) bl ka (fun u hu => ?_) h
        have l1 := la u hu
        have b2 : bt R (pr P a i) k a = true := by
          rw [S.bt_not ls hk G.ha ak'.symm]
          simpa using b
        have no := lose S F ls hk G.ha ak'.symm kk b2 lk
        have l2 : i ≠ rk P a u := fun z => no (by
          have : rk P a (pr P a i) = rk P a u := by rw [ra]; exact z
          rw [S.rk_inj G.ha ls (F.g.lay.key hu).2 this]
          exact hu)
        omega
theorem emp_stb : Stb P R (emp n) := fun s k h => absurd h emp_at
theorem layG_stb (S : Setg m n P R) (T : Trn m n R) : ∀ (h q : List Nat) (sl : List Int), Good m n P sl → (∀ k, (∃ s, At sl s k) ↔ k ∈ q) → Hist m n (q ++ h) → Stb P R sl → Stb P R (layG P R sl h)
  | [], q, sl, g, ks, H, st => st
  | a :: h, q, sl, g, ks, H, st => by
    have nd := H.nd
    rw [List.nodup_append] at nd
    have fw := H.few
    rw [List.length_append, List.length_cons] at fw
    have G := step_go S g ks (H.lt a (by simp)) (fun z => nd.2.2 a z a (by simp) rfl) (by omega)
    obtain ⟨g2, k2⟩ := step_good S G ks
    exact layG_stb S T h (q ++ [a]) _ g2 k2 (by rw [List.append_assoc]; exact H) (insG_stb S T _ _ _ _ _ _ G st (fun j lj => absurd lj (Nat.not_lt_zero _)) (ins_eq S G))
theorem layF_stb (S : Setg m n P R) (T : Trn m n R) {h : List Nat} (H : Hist m n h) : Stb P R (layF P R h) :=
  layG_stb S T h [] (emp R.length) (by rw [S.rl]; exact emp_good m n P) (fun k => ⟨fun ⟨s, hs⟩ => absurd hs emp_at, fun h => by cases h⟩) H (by rw [S.rl]; exact emp_stb)
theorem layG_below (S : Setg m n P R) {K : Nat → Prop} {M : List Int} (F : Fix m n P R K M) : ∀ (h q : List Nat) (sl : List Int), Good m n P sl → (∀ k, (∃ s, At sl s k) ↔ k ∈ q) → Hist m n (q ++ h) → (∀ k ∈ h, K k) → Below P K M sl → Below P K M (layG P R sl h)
  | [], q, sl, g, ks, H, _, st => st
  | a :: h, q, sl, g, ks, H, hK, bl => by
    have nd := H.nd
    rw [List.nodup_append] at nd
    have fw := H.few
    rw [List.length_append, List.length_cons] at fw
    have G := step_go S g ks (H.lt a (by simp)) (fun z => nd.2.2 a z a (by simp) rfl) (by omega)
    obtain ⟨g2, k2⟩ := step_good S G ks
    exact layG_below S F h (q ++ [a]) _ g2 k2 (by rw [List.append_assoc]; exact H) (fun k hk => hK k (List.mem_cons_of_mem _ hk)) (insG_below S F _ _ _ _ _ _ G bl (hK a List.mem_cons_self) (fun _ _ => Nat.zero_le _) (ins_eq S G))
theorem layF_fix (S : Setg m n P R) (T : Trn m n R) {h : List Nat} (H : Hist m n h) : Fix m n P R (· ∈ h) (layF P R h) := ⟨(layF_good S H).1, fun k hk => ((layF_good S H).2 k).mpr hk, layF_stb S T H⟩
theorem layF_below (S : Setg m n P R) {K : Nat → Prop} {M : List Int} (F : Fix m n P R K M) {h : List Nat} (H : Hist m n h) (hK : ∀ k ∈ h, K k) : Below P K M (layF P R h) :=
  layG_below S F h [] (emp R.length) (by rw [S.rl]; exact emp_good m n P) (fun k => ⟨fun ⟨s, hs⟩ => absurd hs emp_at, fun h => by cases h⟩) H hK (fun s k hk => by rw [S.rl] at hk; exact absurd hk emp_at)
theorem layF_any (S : Setg m n P R) (T : Trn m n R) {h h2 : List Nat} (H : Hist m n h) (H2 : Hist m n h2) (same : ∀ k, k ∈ h ↔ k ∈ h2) : layF P R h = layF P R h2 := by
  have b1 := layF_below S (layF_fix S T H2) H (fun k hk => (same k).mp hk)
  have b2 := layF_below S (layF_fix S T H) H2 (fun k hk => (same k).mpr hk)
  obtain ⟨g1, k1⟩ := layF_good S H
  obtain ⟨g2, k2⟩ := layF_good S H2
  have half : ∀ s k, At (layF P R h) s k → At (layF P R h2) s k := fun s k hs => by
    obtain ⟨u, hu⟩ := (k2 k).mpr ((same k).mp ((k1 k).mp ⟨s, hs⟩))
    have l1 := (b1 s k hs).2 u hu
    have l2 := (b2 u k hu).2 s hs
    have hk := (g1.lay.key hs).1
    have e := S.rk_inj hk (g1.lay.key hs).2 (g2.lay.key hu).2 (by omega)
    rw [e]
    exact hu
  refine List.ext_getElem? fun s => ?_
  by_cases ls : s < n
  · rcases g1.lay.either ls with e | ⟨k, hk⟩
    · rcases g2.lay.either ls with e2 | ⟨k, hk⟩
      · rw [e, e2]
      · obtain ⟨u, hu⟩ := (k1 k).mpr ((same k).mpr ((k2 k).mp ⟨s, hk⟩))
        have := g2.lay.inj _ _ _ (half u k hu) hk
        rw [this] at hu
        exact absurd e hu.ne
    · have := half s k hk
      unfold At at hk this
      rw [hk, this]
  · rw [List.getElem?_eq_none (by rw [g1.lay.len]; omega), List.getElem?_eq_none (by rw [g2.lay.len]; omega)]
end
end DL
namespace DL
open PySem PySem.Spec PyProof.Rows L2 LamX PySem.W SL
section
variable {m n : Nat} {P : List (List Int)} {R : List (List (List Int))}
def oth (sl : List Int) (a : Nat) : List Nat := (sl.filter fun x => !decide (x = -1) && !decide (x = (a : Int))).map Int.toNat
theorem oth_mem {sl : List Int} (L : Lay m n sl) {a k : Nat} : k ∈ oth sl a ↔ (∃ s, At sl s k) ∧ k ≠ a := by
  unfold oth
  rw [List.mem_map]
  constructor
  · rintro ⟨x, hx, rfl⟩
    obtain ⟨h1, h2⟩ := List.mem_filter.mp hx
    simp only [Bool.and_eq_true, Bool.not_eq_true', decide_eq_false_iff_not] at h2
    have r := L.rng x h1
    obtain ⟨s, hs⟩ := List.mem_iff_getElem?.mp h1
    refine ⟨⟨s, ?_⟩, by omega⟩
    unfold At
    rw [hs]
    congr 1
    omega
  · rintro ⟨⟨s, hs⟩, ne⟩
    refine ⟨(k : Int), List.mem_filter.mpr ⟨List.mem_of_getElem? hs, ?_⟩, by omega⟩
    simp only [Bool.and_eq_true, Bool.not_eq_true', decide_eq_false_iff_not]
    omega
theorem oth_hist {sl : List Int} (L : Lay m n sl) {a : Nat} : Hist m n (oth sl a) := by
  refine ⟨?_, fun k hk => ?_, ?_⟩
  · unfold oth
    rw [List.Nodup, List.pairwise_map]
    have pw : sl.Pairwise fun x y => x ≠ -1 → y ≠ -1 → x ≠ y := List.pairwise_iff_getElem.mpr fun i j hi hj lt h1 h2 e => by
      have r := L.rng _ (List.getElem_mem hi)
      have a1 : At sl i sl[i].toNat := by
        unfold At
        rw [List.getElem?_eq_getElem hi]
        congr 1
        omega
      have a2 : At sl j sl[i].toNat := by
        unfold At
        rw [List.getElem?_eq_getElem hj, ← e]
        congr 1
        omega
      have := L.inj _ _ _ a1 a2
      omega
    refine List.Pairwise.imp_of_mem ?_ (pw.filter _)
    intro x y hx hy h e
    obtain ⟨x1, x2⟩ := List.mem_filter.mp hx
    obtain ⟨y1, y2⟩ := List.mem_filter.mp hy
    simp only [Bool.and_eq_true, Bool.not_eq_true', decide_eq_false_iff_not] at x2 y2
    have := L.rng x x1
    have := L.rng y y1
    exact h x2.1 y2.1 (by omega)
  · exact (L.key ((oth_mem L).mp hk).1.choose_spec).1
  · unfold oth
    rw [List.length_map]
    have := List.length_filter_le (fun x => !decide (x = -1) && !decide (x = (a : Int))) sl
    rw [L.len] at this
    exact this
def g_reqO : DRs := fun ds st Q => ∃ (m : Nat) (R : List (List (List Int))), ds = [tabsD R] ∧ R.length ≤ 60 ∧ m ≤ 60 ∧ (∀ t ∈ R, Tb m t ∧ noRing t = true) ∧ Q .non st
theorem ar_reqO (ds : List D) (st : DSt) (Q : DK) (h : g_reqO ds st Q) : ds.length = 1 := by
  obtain ⟨_, _, rfl, _⟩ := h
  rfl
theorem sem_reqO (ds : List D) (st : DSt) (Q : DK) (h : g_reqO ds st Q) : F_require_ordered g_ring { nx := fun _ st' => Rt st Q .non st', rt := Rt st Q } (startD 2 ds) st := by
  obtain ⟨m, R, rfl, n60, m60, all, q⟩ := h
  have st2 : startD 2 [tabsD R] = [some (.tup (R.map rowsD)), none] := rfl
  simp only [F_require_ordered, st2]
  try simp only [e_var, e_C, e_op, e_neg, e_isN, e_notN, e_and, e_or, e_not, e_test, e_tAnd, e_tOr, e_tNot, e_tYes, e_if, e_aNil, e_aCons, e_tup, e_lst, e_lstN, e_len0, e_len1, e_len2, e_len3, e_len4, e_len5, e_cb, e_on1, e_on2, e_onI, e_onB, e_onO, e_onO0, e_onOO, e_I0, e_I, e_add, e_addT, e_addS, e_addL, e_addLR, e_addRL, e_addRR, e_mul, e_mulL, e_mulT, e_rev, e_revT, e_ix, e_eqI, e_eqS, e_eqB, e_neI, e_neS, e_neB, e_ltI, e_chain, e_len, e_abs, e_2I, e_tuple1, e_tuple2, e_tuple3, e_listT, e_listN, e_allR, e_seqT, e_seqK, e_seqL, e_isi, e_isB, e_notB, e_truth, e_next, e_drop, e_ret, e_retN, e_ifS, e_set, e_asg, e_par, e_nm, e_gsN, e_gsC, e_gTpK, e_gTpL, e_sum, e_maxL, e_minL, e_maxDef, e_int, e_intB, e_aug, e_on3, e_par3, e_newK, e_getK, e_keyI, e_keyS, e_inK, e_ninK, e_putK, e_lenK, e_lstS, e_seqX, e_gTpT, e_oN, e_oS, e_sl, e_slT, e_slL, e_finT, e_finN, e_index, e_idxT, e_idxL, e_mIx, e_ixST, e_ixSL, e_mtL, e_w, e_w1, e_w2, e_wE, e_wZ, e_itK, e_itT, e_itL, e_itT2, e_itL2, e_lc, e_for, e_wipe0, e_wipe, e_okI, e_okR, e_gSb, List.getElem?_cons_zero, List.getElem?_cons_succ, List.set_cons_zero, List.set_cons_succ, List.length_map, Int.toNat_natCast]
  refine ⟨⟨by omega, by omega⟩, ?_⟩
  refine for_inv (fun ds r st' => ∃ (k : Nat) (x1 : Option D), ds = (rgD 0 R.length).drop k ∧ r = [some (.tup (R.map rowsD)), x1] ∧ st = st') ?_ ?_ _ _ _ ⟨0, _, rfl, rfl, rfl⟩
  · rintro d ds r st' N hN ⟨k, x1, e, rfl, rfl⟩
    obtain ⟨ek, lk, rfl⟩ := drop_cons e.symm
    obtain ⟨lt, rfl⟩ := rgD_get ek
    have hk := List.getElem?_eq_getElem (l := R) (i := k) lt
    have tk := all _ (List.getElem_mem (l := R) (n := k) lt)
    rw [Int.zero_add]
    try simp only [e_var, e_C, e_op, e_neg, e_isN, e_notN, e_and, e_or, e_not, e_test, e_tAnd, e_tOr, e_tNot, e_tYes, e_if, e_aNil, e_aCons, e_tup, e_lst, e_lstN, e_len0, e_len1, e_len2, e_len3, e_len4, e_len5, e_cb, e_on1, e_on2, e_onI, e_onB, e_onO, e_onO0, e_onOO, e_I0, e_I, e_add, e_addT, e_addS, e_addL, e_addLR, e_addRL, e_addRR, e_mul, e_mulL, e_mulT, e_rev, e_revT, e_ix, e_eqI, e_eqS, e_eqB, e_neI, e_neS, e_neB, e_ltI, e_chain, e_len, e_abs, e_2I, e_tuple1, e_tuple2, e_tuple3, e_listT, e_listN, e_allR, e_seqT, e_seqK, e_seqL, e_isi, e_isB, e_notB, e_truth, e_next, e_drop, e_ret, e_retN, e_ifS, e_set, e_asg, e_par, e_nm, e_gsN, e_gsC, e_gTpK, e_gTpL, e_sum, e_maxL, e_minL, e_maxDef, e_int, e_intB, e_aug, e_on3, e_par3, e_newK, e_getK, e_keyI, e_keyS, e_inK, e_ninK, e_putK, e_lenK, e_lstS, e_seqX, e_gTpT, e_oN, e_oS, e_sl, e_slT, e_slL, e_finT, e_finN, e_index, e_idxT, e_idxL, e_mIx, e_ixST, e_ixSL, e_mtL, e_w, e_w1, e_w2, e_wE, e_wZ, e_itK, e_itT, e_itL, e_itT2, e_itL2, e_lc, e_for, e_wipe0, e_wipe, e_okI, e_okR, e_gSb, List.getElem?_cons_zero, List.getElem?_cons_succ, List.set_cons_zero, List.set_cons_succ]
    refine ⟨m, R, k, R[k], rfl, hk, tk.1, m60, fun _ => ?_, fun a b c rg => absurd rg (noRing_iff.mp tk.2 a b c)⟩
    try simp only [e_var, e_C, e_op, e_neg, e_isN, e_notN, e_and, e_or, e_not, e_test, e_tAnd, e_tOr, e_tNot, e_tYes, e_if, e_aNil, e_aCons, e_tup, e_lst, e_lstN, e_len0, e_len1, e_len2, e_len3, e_len4, e_len5, e_cb, e_on1, e_on2, e_onI, e_onB, e_onO, e_onO0, e_onOO, e_I0, e_I, e_add, e_addT, e_addS, e_addL, e_addLR, e_addRL, e_addRR, e_mul, e_mulL, e_mulT, e_rev, e_revT, e_ix, e_eqI, e_eqS, e_eqB, e_neI, e_neS, e_neB, e_ltI, e_chain, e_len, e_abs, e_2I, e_tuple1, e_tuple2, e_tuple3, e_listT, e_listN, e_allR, e_seqT, e_seqK, e_seqL, e_isi, e_isB, e_notB, e_truth, e_next, e_drop, e_ret, e_retN, e_ifS, e_set, e_asg, e_par, e_nm, e_gsN, e_gsC, e_gTpK, e_gTpL, e_sum, e_maxL, e_minL, e_maxDef, e_int, e_intB, e_aug, e_on3, e_par3, e_newK, e_getK, e_keyI, e_keyS, e_inK, e_ninK, e_putK, e_lenK, e_lstS, e_seqX, e_gTpT, e_oN, e_oS, e_sl, e_slT, e_slL, e_finT, e_finN, e_index, e_idxT, e_idxL, e_mIx, e_ixST, e_ixSL, e_mtL, e_w, e_w1, e_w2, e_wE, e_wZ, e_itK, e_itT, e_itL, e_itT2, e_itL2, e_lc, e_for, e_wipe0, e_wipe, e_okI, e_okR, e_gSb, List.getElem?_cons_zero, List.getElem?_cons_succ, List.set_cons_zero, List.set_cons_succ]
    refine iteF' rfl ?_
    exact hN _ _ (.inl ⟨k + 1, _, rfl, rfl, rfl⟩)
  · rintro r st' ⟨k, x1, e, rfl, rfl⟩
    try simp only [e_var, e_C, e_op, e_neg, e_isN, e_notN, e_and, e_or, e_not, e_test, e_tAnd, e_tOr, e_tNot, e_tYes, e_if, e_aNil, e_aCons, e_tup, e_lst, e_lstN, e_len0, e_len1, e_len2, e_len3, e_len4, e_len5, e_cb, e_on1, e_on2, e_onI, e_onB, e_onO, e_onO0, e_onOO, e_I0, e_I, e_add, e_addT, e_addS, e_addL, e_addLR, e_addRL, e_addRR, e_mul, e_mulL, e_mulT, e_rev, e_revT, e_ix, e_eqI, e_eqS, e_eqB, e_neI, e_neS, e_neB, e_ltI, e_chain, e_len, e_abs, e_2I, e_tuple1, e_tuple2, e_tuple3, e_listT, e_listN, e_allR, e_seqT, e_seqK, e_seqL, e_isi, e_isB, e_notB, e_truth, e_next, e_drop, e_ret, e_retN, e_ifS, e_set, e_asg, e_par, e_nm, e_gsN, e_gsC, e_gTpK, e_gTpL, e_sum, e_maxL, e_minL, e_maxDef, e_int, e_intB, e_aug, e_on3, e_par3, e_newK, e_getK, e_keyI, e_keyS, e_inK, e_ninK, e_putK, e_lenK, e_lstS, e_seqX, e_gTpT, e_oN, e_oS, e_sl, e_slT, e_slL, e_finT, e_finN, e_index, e_idxT, e_idxL, e_mIx, e_ixST, e_ixSL, e_mtL, e_w, e_w1, e_w2, e_wE, e_wZ, e_itK, e_itT, e_itL, e_itT2, e_itL2, e_lc, e_for, e_wipe0, e_wipe, e_okI, e_okR, e_gSb, List.getElem?_cons_zero, List.getElem?_cons_succ, List.set_cons_zero, List.set_cons_succ]
    exact .inl q
end
end DL
namespace DL
open PySem PySem.Spec PyProof.Rows L2 LamX PySem.W SL
end DL
namespace DL
open PySem PySem.Spec PyProof.Rows L2 LamX PySem.W SL
section
variable {m n : Nat} {P : List (List Int)} {R : List (List (List Int))}
def First (m n : Nat) (P : List (List Int)) (s0 : Nat) : Prop := s0 < n ∧ ∀ a, a < m → pr P a 0 = s0
theorem First.ne (S : Setg m n P R) {s0 a i : Nat} (F : First m n P s0) (ha : a < m) (hi : i < n) (i1 : 1 ≤ i) : pr P a i ≠ s0 := fun e => by
  have h := S.rk_pr ha hi
  rw [e, ← F.2 a ha, S.rk_pr ha (by omega)] at h
  omega
end
end DL
namespace DL
open PySem PySem.Spec PyProof.Rows L2 LamX PySem.W SL
section
variable {m n : Nat} {P : List (List Int)} {R : List (List (List Int))}
end
end DL
namespace DL
open PySem PySem.Spec PyProof.Rows L2 LamX PySem.W SL
def hI (h : List Nat) : List Int := h.map fun k : Nat => (k : Int)
theorem hist_row (h : List Nat) : histD h = rowD (hI h) := by
  unfold histD rowD hI
  rw [List.map_map]
  rfl
end DL
namespace DL
open PySem PySem.Spec PyProof.Rows L2 LamX PySem.W SL
section
variable {m n : Nat} {P : List (List Int)} {R : List (List (List Int))}
theorem lay_ix {L : List Int} (Ly : Lay m n L) {u k : Nat} (h : At L u k) : ixOf (k : Int) L = some u := by
  have mem : (k : Int) ∈ L := List.mem_of_getElem? h
  obtain ⟨e, i⟩ := pos_at mem
  rw [i, Ly.inj _ _ _ e h]
end
def nL (h : List Nat) : List D := h.map fun k : Nat => D.int (k : Nat)
theorem Hist.ofPerm {m n : Nat} {h h2 : List Nat} (H : Hist m n h) (p : h2.Perm h) : Hist m n h2 := ⟨p.nodup_iff.mpr H.nd, fun k hk => H.lt k (p.mem_iff.mp hk), by rw [p.length_eq]; exact H.few⟩
theorem ordT_noRing {n : Nat} {ns : List Int} (o : Ord n ns) : noRing (DL.ordT ns) = true := by
  refine noRing_iff.mpr fun a b c r => ?_
  have tb := o.tb
  obtain ⟨ra, rb, rc, _⟩ := ring_at_ tb r
  obtain ⟨_, _, hb, hc, ha⟩ := r
  have e : ∀ x : Int, 0 ≤ x → ((x.toNat : Nat) : Int) = x := fun x h => by omega
  have h1 := ((o.beats (a := a.toNat) (by omega)).mp hb).2
  have h2 := ((o.beats (a := b.toNat) (by omega)).mp hc).2
  have h3 := ((o.beats (a := c.toNat) (by omega)).mp ha).2
  rw [e _ ra.1] at h1
  rw [e _ rb.1] at h2
  rw [e _ rc.1] at h3
  omega
end DL
namespace DL
open PySem PySem.Spec PyProof.Rows L2 LamX PySem.W SL
section
variable {T : List (Addr × Str)} {X : Cx} {K : Frag} {a b : Expr} {fa fb : DTE} {pos : Pos}
end
end DL
namespace SL
open PySem PySem.Spec PyProof.Rows L2
section
variable {prog : Program} {w : World} {A : Around} {R : Result → Shared → Prop} {itr : Addr} {seen mv : List Addr} {n : Nat} {Pk : Nat → Value → Prop} {Stt : Nat → Heap → Prop}
end
section
variable {prog : Program} {w : World} {A : Around} {E : Value → Shared → Prop} {s : Shared}
end
end SL
namespace DL
open PySem PySem.Spec PyProof.Rows L2 LamX PySem.W SL
section
variable {X : Cx}
end
end DL
namespace SL
open PySem PySem.Spec PyProof.Rows L2
section
variable {prog : Program} {w : World} {A : Around} {E : Value → Shared → Prop} {s : Shared}
end
section
variable {prog : Program} {w : World} {A : Around} {R : Result → Shared → Prop}
end
section
variable {prog : Program} {w : World} {A : Around} {E : Value → Shared → Prop} {s : Shared}
end
end SL
namespace SL
open PySem PySem.Spec PyProof.Rows L2
structure NewE (H H2 : Hp) (box : Addr) (xs : List V) (ps : List Addr) : Prop where
  len : ps.length = xs.length
  nd : ps.Nodup
  nb : H box = none
  np : ∀ p ∈ ps, p ≠ box ∧ H p = none
  box_ : H2 box = some (.lst (ps.map V.ref))
  pair : ∀ (j : Nat) (p : Addr) (x : V), ps[j]? = some p → xs[j]? = some x → H2 p = some (.tup [.int (j : Nat), x])
  old : ∀ b, b ≠ box → b ∉ ps → H2 b = H b
theorem NewE.ext {H H2 : Hp} {box : Addr} {xs : List V} {ps : List Addr} (N : NewE H H2 box xs ps) {b : Addr} {o : HO} (e : H b = some o) : H2 b = some o := by
  rw [N.old b (fun z => by rw [z, N.nb] at e; cases e) (fun z => by rw [(N.np b z).2] at e; cases e)]
  exact e
section
variable {X : Cx} {pins : List (Addr × Obj)} {σ : L2.St} {H : Hp} {s : Shared}
end
end SL
namespace DL
open PySem PySem.Spec PyProof.Rows L2 LamX PySem.W SL
def dLEnum (fs : DTA) : DTE := fun r st Q => fs r st fun ds st1 => on1 ds fun x => match x with
  | .tup xs => Q (.lst (enumD xs)) st1
  | _ => False
@[simp] theorem e_lenum {fs : DTA} {r : DEnv} {st : DSt} {Q : DK} : dLEnum fs r st Q = fs r st fun ds st1 => on1 ds fun x => match x with
  | .tup xs => Q (.lst (enumD xs)) st1
  | _ => False := rfl
section
variable {T : List (Addr × Str)} {X : Cx}
end
end DL
set_option maxHeartbeats 2000000
namespace SL
open PySem PySem.Spec PyProof.Rows L2
section
variable {X : Cx} {pins : List (Addr × Obj)} {σ : L2.St} {H : Hp} {s : Shared} {a : Addr} {oe : Obj} {cls : Value} {d : Option Addr}
end
section
variable {X : Cx} {x n m : Str} {c : Value} {i j : Nat} {body : List Stmt} {np pos pos' p1 p2 p3 : Pos} {tb : WX → TS}
end
end SL
set_option maxHeartbeats 2000000
namespace DL
open PySem PySem.Spec PyProof.Rows L2 LamX PySem.W SL
abbrev Fld := Option (Str × Int)
def ExD (H : Hp) (fld : Fld) (d : Option Addr) : Prop := match fld with
  | none => d = none
  | some (n, i) => ∃ dd, d = some dd ∧ H dd = some (.xd [(n, .int i)])
def Wish (T : List (Addr × Str)) (K : Frag) (mg : Str → Option Value) (M : Pl) (H : Hp) (st : DSt) (C : Str) (fld : Fld) (E : XK) : Prop :=
  ∀ (M' : Pl) (H' : Hp) (cls : Value) (d : Option Addr), Grow M H M' H' → RS T K M' st H' → mg C = some cls → ExD H' fld d → E cls d H'
theorem Wish.grow {T : List (Addr × Str)} {K : Frag} {mg : Str → Option Value} {M M1 : Pl} {H H1 : Hp} {st : DSt} {C : Str} {fld : Fld} {E : XK} (w : Wish T K mg M H st C fld E) (g : Grow M H M1 H1) : Wish T K mg M1 H1 st C fld E :=
  fun M' H' cls d g1 s m x => w M' H' cls d (g.trans g1) s m x
section
variable {T : List (Addr × Str)} {X : Cx} {M0 : Pl} {H0 : Hp} {s1 : Stmt} {rest a b : List Stmt} {F1 : DTS} {B B2 : DEnv → DSt → Prop} {c : Expr} {t : DTT} {pos : Pos}
end
section
variable {P : Program} {w : World} {K : Frag} {mg : Str → Option Value} {base : Heap}
end
section
variable {T : List (Addr × Str)} {X : Cx} {M0 : Pl} {H0 : Hp} {st0 : DSt} {C n : Str} {i : Int} {E : XK} {e : Expr} {f : DTE} {p pos rpos : Pos}
end
section
variable {P : Program} {w : World} {K : Frag} {mg : Str → Option Value} {base : Heap}
end
section
variable {P : Program} {w : World} {K : Frag} {mg : Str → Option Value} {base : Heap} {T : List (Addr × Str)}
end
end DL
set_option maxHeartbeats 2000000
namespace SL
open PySem PySem.Spec PyProof.Rows L2 LamX
section
variable {X : Cx}
section
variable {cN fN Cj lab fld : Str} {v1 : Vis X.env.scope cN} {q1 q2 q3 q4 q5 q6 q7 q8 q9 pos : Pos} {kk : Nat} {cj : Addr}
end
end
end SL
set_option maxHeartbeats 2000000
namespace SL
open PySem PySem.Spec PyProof.Rows L2 LamX
section
variable {X : Cx} {pins : List (Addr × Obj)} {σ : L2.St} {H HZ : Hp} {s s1 : Shared} {W : WX} {E : XK}
end
end SL
set_option maxHeartbeats 2000000
namespace SL
open PySem PySem.Spec PyProof.Rows L2 LamX
open DL (Fld PS.imp PSs.imp PE.imp)
section
variable {X : Cx} {C : Addr} {lab : Str} {fld : Fld} {rest body : List Stmt} {pos q1 q2 q3 q4 q5 q6 q7 q8 q9 : Pos} {cN fN : Str} {e e2 : Expr} {c : V} {cv : Value}
end
section
variable {X : Cx} {C CS : Addr} {lab : Str} {fld : Fld}
end
end SL
set_option maxHeartbeats 2000000
namespace DL
open PySem PySem.Spec PyProof.Rows L2 LamX PySem.W SL
section
variable {T : List (Addr × Str)} {X : Cx}
end
end DL
set_option maxHeartbeats 2000000
namespace DL
open PySem PySem.Spec PyProof.Rows L2 LamX PySem.W SL
section
variable {T : List (Addr × Str)} {X : Cx}
end
section
variable {K : Frag}
end
end DL
set_option maxHeartbeats 2000000
namespace DL
open PySem PySem.Spec PyProof.Rows L2 LamX PySem.W SL
section
variable {T : List (Addr × Str)} {X : Cx} {M0 : Pl} {H0 : Hp} {B : DEnv → DSt → Prop} {e : Expr} {pos : Pos}
end
end DL
namespace SL
open PySem PySem.Spec PyProof.Rows L2 LamX DL
section
variable {X : Cx} {C CS : Addr} {n : Str} {i : Int}
end
end SL
set_option maxHeartbeats 2000000
namespace SL
open PySem PySem.Spec PyProof.Rows L2 LamX DL
section
variable {X : Cx} {C : Addr} {n : Str} {i : Int}
end
end SL
namespace DL
open PySem PySem.Spec PyProof.Rows L2 LamX PySem.W SL
section
variable {T : List (Addr × Str)} {X : Cx}
end
end DL
set_option maxHeartbeats 2000000
namespace DL
open PySem PySem.Spec PyProof.Rows L2 LamX PySem.W SL
section
variable {T : List (Addr × Str)} {X : Cx} {M0 : Pl} {H0 : Hp} {st : Stmt} {rest a b : List Stmt} {F G : DTS} {c : Expr} {t : DTT} {pos : Pos}
end
end DL
set_option maxHeartbeats 2000000
namespace DL
open PySem PySem.Spec PyProof.Rows L2 LamX PySem.W SL
section
variable {T : List (Addr × Str)} {X : Cx} {M0 : Pl} {H0 : Hp} {B : DEnv → DSt → Prop} {e : Expr} {es : List Expr} {f : DTE} {pos : Pos}
end
end DL
set_option maxHeartbeats 2000000
namespace SL
open PySem PySem.Spec PyProof.Rows L2
theorem type_kw {M : Model} {A : Around} {E : Value → Shared → Prop} {s : Shared} {env : Env} {pos : Pos} {T : String} {e : Expr} {rest : List Expr} {kws : List Keyword} {Q : Value → Shared → Prop}
    (h : wpAny M A (spliced (backTo pos (starEach (e :: rest) env))) (fun vs s₁ => wpAny M A (evalAll ((backToKw pos (keywordEach kws env)).map (·.2)))
      (fun kvs s₂ => wpAny M A (call (.type T) vs (((backToKw pos (keywordEach kws env)).filterMap (·.1)).zip kvs)) Q E s₂) E s₁) E s)
    (he : backTo pos (starEach (e :: rest) env) = (false, eval e env) :: backTo pos (starEach rest env) := by rfl)
    (hplain : (backTo pos (starEach (e :: rest) env)).any (·.1) = false := by rfl)
    (hall : (backToKw pos (keywordEach kws env)).all (·.1.isSome) = true := by rfl)
    (hkw : (backToKw pos (keywordEach kws env)).any (·.1.isNone) = false := by rfl) :
    wpAny M A (callWith pos (.type T) [] (backTo pos (starEach (e :: rest) env)) (backToKw pos (keywordEach kws env))) Q E s := by
  have h2 : wpAny M A (evalArgs (.type T) true (backTo pos (starEach (e :: rest) env)) (backToKw pos (keywordEach kws env))) (fun a s₁ => wpAny M A (call (.type T) ([] ++ a.pos) a.kw) Q E s₁) E s := by
    rw [he] at h ⊢
    exact evalArgs_kwB hall h
  unfold callWith
  refine wpAny_bind (wpAny_holding (wpAny_mono h2 (fun a s₁ h₁ => wpAny_bind (wpAny_standAt ?_)) fun _ _ x => x))
  simp only [hplain, hkw, Bool.or_false]
  refine wpAny_bind (wpAny_pure ?_)
  exact wpAny_bind (wpAny_mono h₁ (fun r s₂ hr => wpAny_bind (wpAny_holding (wpAny_point (wpAny_pure hr)))) fun _ _ x => x)
def IteK (K : PySem.W.Frag) (a : Addr) (k : Nat) : It :=
  ⟨fun i H => ∃ (xs : List V) (x : V), SqT K H a xs ∧ xs[i]? = some x, fun i H v H' => ∃ T x, v = .ref T ∧ H T = none ∧ H' = upd H T (.tup [.int ((i + k : Nat) : Int), x]) ∧ ∀ xs, SqT K H a xs → xs[i]? = some x,
    fun i H => ∃ xs : List V, SqT K H a xs ∧ xs.length = i⟩
theorem turn_enumK {P : Program} {w : World} {K : PySem.W.Frag} {elts : List Expr} {kk : Nat} {tpos : Pos} (a e it : Addr) (k : Nat) :
    Turn P w K (.Tuple elts kk tpos) (IteK K a k) [e, it] e (fun i h => (∃ old, IsEnum h e it ((i + k : Nat) : Int) old) ∧ h.IsTupleIter it a i ∧ e ≠ it ∧ a ≠ it ∧ a ≠ e) where
  mem := by simp
  obj := by
    rintro i h ⟨⟨old, he⟩, ⟨o, ho, hc, hd⟩, _⟩ b hb
    have cs : b = e ∨ b = it := by simpa using hb
    rcases cs with z | z
    · rw [z]
      exact ⟨_, he, fun v q => nomatch q⟩
    · rw [z]
      exact ⟨o, ho, fun v q => by rw [hd] at q; cases q⟩
  keep := by
    rintro i h h' ⟨⟨old, he⟩, hi, r⟩ k
    exact ⟨⟨old, k e (by simp) _ he⟩, hi.at fun o q => k it (by simp) o q, r⟩
  item := by
    rintro X rfl rfl rfl calm i pins s σ H E I hf ⟨⟨old, he⟩, hit, hne, ai, ae⟩ ⟨xs, x, hq, hx⟩
    obtain ⟨its, rv, ht, hz⟩ := I.tuple hq
    obtain ⟨u, hu, ru⟩ := rv.get hx
    have hel : e < s.heap.objs.size := Heap.lt_size he
    have hil : it < s.heap.objs.size := by
      obtain ⟨_, q, _⟩ := hit
      exact Heap.lt_size q
    have li : i < its.toArray.size := by
      rw [List.size_toArray]
      exact (List.getElem?_eq_some_iff.mp hu).1
    have dr := Draws.tuple (prog := X.prog) (w := X.w) (A := X.A.in1) (show X.A.in1.handled = none from I.ok.hd calm) it a ai its.toArray
    refine wpAny_pyNext_enum_itemC dr he ⟨hit, ht⟩ li hne (by simp [hne, Ne.symm ae]) fun y h' tk hy ho st' hT hsz hk => ?_
    have ey : y = u := by
      have z : its[i]? = some y := by simpa using hy
      rw [hu] at z
      exact (Option.some.inj z).symm
    subst ey
    refine ⟨_, rfl, wpAny_letOwnedTupleGo_enum (s := { s with heap := h', toks := tk + 1 }) ho fun h'' he' sb => ?_⟩
    have hT2 : h''.get? s.heap.objs.size = some { cls := .type "tuple", data := .seq #[.int ((i + k : Nat) : Int) tk, y] } := (sb.2 _ (Nat.ne_of_gt hel)).trans hT
    have fresh : ObjOk X.prog X.w (upd H s.heap.objs.size (.tup [.int ((i + k : Nat) : Int), x])) h'' s.heap.objs.size (.tup [.int ((i + k : Nat) : Int), x]) :=
      ⟨by show 2 ≤ sizeLine; decide, [.int ((i + k : Nat) : Int) tk, y], .cons ⟨_, rfl⟩ (.cons ru .nil), ⟨_, hT2, rfl, _, rfl⟩⟩
    have I1 : Inv X pins σ (upd H s.heap.objs.size (.tup [.int ((i + k : Nat) : Int), x])) { s with heap := h'', toks := tk + 1 } :=
      I.turnedNew (ch := [e, it]) (fun b ob hb q => (sb.2 b (fun z => hb (by simp [z]))).trans (hk b ob (fun z => hb (by simp [z])) (fun z => hb (by simp [z])) q)) hf (Nat.le_refl _) fresh
    refine ⟨.ref s.heap.objs.size, _, I1, rfl, ⟨_, x, rfl, I.hok.fresh (Nat.le_refl _), rfl, fun ys hy => by rw [I.tuple_inj hy hq]; exact hx⟩, ⟨⟨y, ?_⟩, st'.1.at fun o q => (sb.2 it (Ne.symm hne)).trans q, hne, ai, ae⟩, fun b hb => ?_⟩
    · rw [show ((i + 1 + k : Nat) : Int) = ((i + k : Nat) : Int) + 1 by omega]
      exact he'
    · have hb' : b < s.heap.objs.size := by
        have cs : b = e ∨ b = it := by simpa using hb
        rcases cs with z | z
        · rw [z]
          exact hel
        · rw [z]
          exact hil
      rw [upd_ne (Nat.ne_of_lt hb')]
      exact (hf b hb).1
  done := by
    rintro X rfl rfl rfl calm i pins s σ H E I hf ⟨⟨old, he⟩, hit, hne, ai, ae⟩ ⟨xs, hq, hx⟩
    obtain ⟨its, rv, ht, hz⟩ := I.tuple hq
    obtain ⟨f0, f1, f2, f3, f4, f5⟩ := hf it (by simp)
    have si : its.toArray.size = i := by rw [List.size_toArray, ← rv.length]; exact hx
    have dr := Draws.tuple (prog := X.prog) (w := X.w) (A := X.A.in1) (show X.A.in1.handled = none from I.ok.hd calm) it a ai its.toArray
    exact wpAny_pyNext_enum_endD dr he ⟨by rw [si]; exact hit, ht⟩ fun h' eb => ⟨rfl, I.turned (t' := s.toks) (fun b o hb q => eb b o hb q) f0 f1 f3 f4 f5⟩
  self := fun A i s Q E st h => let ⟨⟨_, he⟩, _⟩ := st; wpAny_pyIter_enum he h
def iEnumK (K : PySem.W.Frag) (k : Nat) (ta : TA) : TI := fun σ H R => ta σ H fun vs H1 => ∃ a, vs = [.ref a] ∧ (∃ xs, SqT K H1 a xs) ∧ R (IteK K a k) H1
theorem pi_enumK {X : Cx} {e : Expr} {ta : TA} {k : Nat} {j0 : Nat} {p pos tpos kp cp : Pos} {elts : List Expr} {kk : Nat} (k9 : (k : Int) < 2 ^ 63) (g1 : Gl X "enumerate") (m1 : X.mg "enumerate" = none) (ha : PA X [e] ta) (one : starEach [e] X.env = [(false, eval e X.env)] := by rfl) :
    PI X (.Tuple elts kk tpos) (.Call (.Name "enumerate" p) [e] [⟨some "start", .Constant (.int (k : Nat)) j0 cp, kp⟩] pos) (iEnumK X.K k ta) := by
  constructor
  intro pins s σ H R I h
  refine wpAny_Call_Name_kw (ld_blt I g1 m1 boot_enumerate (type_kw (thn (ha.run pos pins s σ H _ I h) ?_) (by rw [one]; rfl) (by rw [one]; rfl)))
  rintro us s1 ⟨vs, H1, I1, r1, a, rfl, ⟨xs, hq⟩, q⟩
  refine kws_cons (thn ((pe_int (i := (k : Int)) (j := j0) (pos := cp)).run pins s1 σ H1 (fun v H2 => v = .int (k : Int) ∧ H2 = H1) I1 ⟨rfl, rfl⟩) ?_)
  rintro u s2 ⟨v, H2, I2, rv2, rfl, rfl⟩
  obtain ⟨tk, rfl⟩ := rv2
  refine kws_nil ?_
  cases r1 with
  | cons r rr =>
    cases rr
    cases r
    obtain ⟨its, rv, ht, hz⟩ := I2.tuple hq
    have ht' : s2.heap.IsTuple a its.toArray := ht
    have al : a < s2.heap.objs.size := by obtain ⟨_, e, _⟩ := ht'; exact Heap.lt_size e
    refine enum_begins_start (begins_tuple a its.toArray) ht' (by omega) k9 fun h' he hit hsz kept => wpAny_pyIter_enum he ?_
    have I3 : Inv X pins σ H2 { s2 with heap := h' } := I2.kept (t' := s2.toks) kept
    refine ⟨s2.heap.objs.size + 1, [s2.heap.objs.size + 1, s2.heap.objs.size], _, _, H2, rfl, I3, turn_enumK a (s2.heap.objs.size + 1) s2.heap.objs.size k, ⟨⟨.none, by rw [Nat.zero_add]; exact he⟩, ⟨_, hit, rfl, rfl⟩, Nat.succ_ne_self _, Nat.ne_of_lt al, Nat.ne_of_lt (Nat.lt_succ_of_lt al)⟩, fun b hb => ?_, q⟩
    have cs : b = s2.heap.objs.size + 1 ∨ b = s2.heap.objs.size := by simpa using hb
    have hle : s2.heap.objs.size ≤ b := by
      rcases cs with z | z
      · rw [z]
        exact Nat.le_succ _
      · rw [z]
        exact Nat.le_refl _
    exact I2.fpOk hle (I2.hok.fresh hle)
end SL
namespace DL
open PySem PySem.Spec PyProof.Rows L2 LamX PySem.W SL RZ
def enumDK (k : Nat) (xs : List D) : List D := xs.zipIdx.map fun p => D.tuk [.int ((p.2 + k : Nat) : Int), p.1]
theorem enumDK_get {k : Nat} {xs : List D} {i : Nat} {d : D} (h : (enumDK k xs)[i]? = some d) : ∃ x, xs[i]? = some x ∧ d = .tuk [.int ((i + k : Nat) : Int), x] := by
  unfold enumDK at h
  rw [List.getElem?_map, List.getElem?_zipIdx] at h
  cases q : xs[i]? with
  | none => rw [q] at h; cases h
  | some x => rw [q] at h; cases h; exact ⟨x, rfl, by rw [Nat.zero_add]⟩
theorem enumDK_length (k : Nat) (xs : List D) : (enumDK k xs).length = xs.length := by unfold enumDK; rw [List.length_map, List.length_zipIdx]
def wEnumK (k : Nat) (fs : DTA) : DTI := fun r st R => fs r st fun ds st1 => on1 ds fun x => onO (itT x) fun I => R ⟨enumDK k I.items, none⟩ st1
section
variable {T : List (Addr × Str)} {K : Frag} {M : Pl} {H : Hp} {st : DSt} {I : DIt} {a : Addr}
theorem IsT.enumK (k : Nat) (e0 : I.src = none) (h : IsT T K M H I a) : ItOk T K M H (IteK K a k) ⟨enumDK k I.items, none⟩ := by
  refine ⟨fun M' H' st' l s ok i d e => ?_, fun M' H' st' l s ok => ?_⟩
  · obtain ⟨xs, r, q⟩ := h M' H' st' l s (.inl e0)
    obtain ⟨x, e1, rfl⟩ := enumDK_get e
    obtain ⟨v, e2, rv⟩ := r.get e1
    refine ⟨⟨xs, v, q, e2⟩, fun y H'' z => ?_⟩
    obtain ⟨p, w, rfl, np, rfl, z⟩ := z
    have zz := z xs q
    rw [e2] at zz
    cases zz
    have g : Grow M' H' M' (upd H' p (.tup [.int ((i + k : Nat) : Int), v])) := Grow.new s.hid np
    exact ⟨g, s.new np, .tuk (s.notin np) upd_same (.cons (.int _) (.cons (rv.grow g) .nil))⟩
  · obtain ⟨xs, r, q⟩ := h M' H' st' l s (.inl e0)
    exact ⟨xs, q, by rw [enumDK_length, r.length]⟩
end
section
variable {T : List (Addr × Str)} {X : Cx} {e : Expr} {fs : DTA} {j0 : Nat} {p pos tpos kp cp : Pos} {elts : List Expr} {kk k : Nat}
theorem di_enumK (k9 : (k : Int) < 2 ^ 63) (hg : Gl X "enumerate") (hm : X.mg "enumerate" = none) (ha : DA T X [e] fs) (hs : starEach [e] X.env = [(false, eval e X.env)] := by rfl) : DI T X (.Tuple elts kk tpos) (.Call (.Name "enumerate" p) [e] [⟨some "start", .Constant (.int (k : Nat)) j0 cp, kp⟩] pos) (wEnumK k fs) :=
  PI.imp (pi_enumK k9 hg hm ha hs) fun σ H R ⟨M, r, st, R', s, re, h, kn⟩ => ⟨M, r, st, _, s, re, h, fun M1 H1 st1 ds vs g1 s1 r1 q => by
    obtain ⟨x, rfl, q1⟩ := on1.of q
    obtain ⟨I, e, q2⟩ := onO.of q1
    obtain ⟨v, rfl, rv⟩ := r1.one
    obtain ⟨a, rfl, is, e0⟩ := itT.is (T := T) rv e
    obtain ⟨xs, _, sq⟩ := is M1 H1 st1 (Later.refl _ _) s1 (.inl e0)
    exact ⟨a, rfl, ⟨xs, sq⟩, kn M1 H1 st1 _ _ g1 s1 q2 (is.enumK k e0)⟩⟩
theorem e_wEK {k : Nat} {fs : DTA} {r : DEnv} {st : DSt} {R : DIt → DSt → Prop} : wEnumK k fs r st R = fs r st fun ds st1 => on1 ds fun x => onO (itT x) fun I => R ⟨enumDK k I.items, none⟩ st1 := rfl
end
end DL
set_option maxHeartbeats 2000000
namespace SL
open PySem PySem.Spec PyProof.Rows L2 LamX PySem.W
section
variable {X : Cx} {pins : List (Addr × Obj)} {σ : L2.St} {H : Hp} {s : Shared}
end
end SL
namespace DL
open PySem PySem.Spec PyProof.Rows L2 LamX PySem.W SL
end DL
namespace DL
open PySem PySem.Spec PyProof.Rows L2 LamX PySem.W SL
def DkD (st : DSt) (x : D) : Prop := onDk st x fun _ _ => True
def dGetD (fo fe ff : DTE) : DTE := fun r st Q => fo r st fun x st1 => DkD st1 x ∧ fe r st1 fun y st2 => ff r st2 fun z st3 => onDk st3 x fun n kvs => onO (keyD y) fun k => Q ((valD kvs k).getD z) st3
theorem de_getD {T : List (Addr × Str)} {X : Cx} {o e f : Expr} {apos cpos : Pos} {fo fe ff : DTE} (hu : X.A.units + 1 < cLine) (ho : DE T X o fo) (he : DE T X e fe) (hf : DE T X f ff)
    (h1 : attributeBase o "get" X.env (eval o X.env) = eval o X.env := by rfl)
    (h2 : ((backTo cpos (starEach [e, f] X.env)).all (fun x => !x.1) && (backToKw cpos (keywordEach [] X.env)).all (fun x => x.1.isSome) && decide (([e, f] : List Expr).length + ([] : List Keyword).length + (if ([] : List Keyword).isEmpty then 0 else 1) < 30)) = true := by rfl)
    (h3 : (apos.endLine == cpos.line) = true := by rfl) (h4 : backTo cpos (starEach [e, f] X.env) = [(false, eval e X.env), (false, eval f X.env)] := by rfl) :
    DE T X (.Call (.Attribute o "get" apos) [e, f] [] cpos) (dGetD fo fe ff) :=
  PE.imp (pe_dget2 hu ho he hf ⟨h1, h2, h3, h4⟩) fun σ H Q ⟨M, r, st, Q', s, re, h, k⟩ => ⟨M, r, st, _, s, re, h, fun M1 H1 st1 x vx g1 s1 r1 ⟨hd, h1⟩ => by
    obtain ⟨n, kvs, rfl, e1, _⟩ := onDk.of hd
    obtain ⟨p, ys, rfl, hm, hp, kv⟩ := onDk.rd s1 r1 e1
    exact ⟨p, rfl, .inl ⟨ys, .inl hp⟩, M1, r, st1, _, s1, re.grow g1, h1, fun M2 H2 st2 y vy g2 s2 r2 h2 => ⟨M2, r, st2, _, s2, (re.grow g1).grow g2, h2, fun M3 H3 st3 z vz g3 s3 r3 h3 => by
      obtain ⟨n', kvs3, en, e3, h3⟩ := onDk.of h3
      cases en
      obtain ⟨kk, ek, h3⟩ := onO.of h3
      obtain ⟨p3, ys3, ep, hm3, hp3, kv3⟩ := onDk.rd s3 ((r1.grow g2).grow g3) e3
      cases ep
      have := (r2.grow g3).key ek
      subst this
      refine ⟨valV ys3 kk, DGet.k hp3, ?_⟩
      rcases kv3.val (k := kk) with ⟨z1, z2⟩ | ⟨d', v, z1, z2, rv⟩
      · rw [z2]
        rw [z1] at h3
        exact (((k.grow g1).grow g2).grow g3).here s3 r3 h3
      · rw [z2]
        rw [z1] at h3
        exact (((k.grow g1).grow g2).grow g3).here s3 rv h3⟩⟩⟩
@[simp] theorem e_getD {fo fe ff : DTE} {r : DEnv} {st : DSt} {Q : DK} : dGetD fo fe ff r st Q = fo r st fun x st1 => DkD st1 x ∧ fe r st1 fun y st2 => ff r st2 fun z st3 => onDk st3 x fun n kvs => onO (keyD y) fun k => Q ((valD kvs k).getD z) st3 := rfl
end DL
namespace DL
open PySem PySem.Spec PyProof.Rows L2 LamX PySem.W SL
def dGet1 (fo fe : DTE) : DTE := fun r st Q => fo r st fun x st1 => DkD st1 x ∧ fe r st1 fun y st2 => onDk st2 x fun n kvs => onO (keyD y) fun k => Q ((valD kvs k).getD .non) st2
@[simp] theorem e_get1 {fo fe : DTE} {r : DEnv} {st : DSt} {Q : DK} : dGet1 fo fe r st Q = fo r st fun x st1 => DkD st1 x ∧ fe r st1 fun y st2 => onDk st2 x fun n kvs => onO (keyD y) fun k => Q ((valD kvs k).getD .non) st2 := rfl
end DL
namespace DL
open PySem PySem.Spec PyProof.Rows L2 LamX PySem.W SL
def onLk (st : DSt) (x : D) (k : Nat → Obj → List (Key × V) → List (Key × D) → Prop) : Prop := match x with
  | .ref n => match st[n]? with | some (.lk ob ys kvs) => k n ob ys kvs | _ => False
  | _ => False
theorem onLk_ref {st : DSt} {n : Nat} {ob : Obj} {ys : List (Key × V)} {kvs : List (Key × D)} {k : Nat → Obj → List (Key × V) → List (Key × D) → Prop} (h : st[n]? = some (.lk ob ys kvs)) : onLk st (.ref n) k = k n ob ys kvs := by unfold onLk; simp only [h]
theorem onLk.of {st : DSt} {d : D} {k : Nat → Obj → List (Key × V) → List (Key × D) → Prop} (h : onLk st d k) : ∃ n ob ys kvs, d = .ref n ∧ st[n]? = some (.lk ob ys kvs) ∧ k n ob ys kvs := by
  cases d with
  | ref n =>
    unfold onLk at h
    simp only at h
    split at h
    · rename_i ob ys kvs e
      exact ⟨n, ob, ys, kvs, rfl, e, h⟩
    · exact h.elim
  | _ => exact h.elim
def kD : Key → D
  | .inl i => .int i
  | .inr x => .str x
theorem RV.kD {K : Frag} {M : Pl} {H : Hp} (k : Key) : RV K M H (DL.kD k) (kV k) := by
  cases k with
  | inl i => exact .int i
  | inr x => exact .str x
def itemsK (kvs : List (Key × D)) : List D := kvs.map fun kv => .tuk [kD kv.1, kv.2]
def keysK (kvs : List (Key × D)) : List D := kvs.map fun kv => kD kv.1
def wItemsK (f : DTE) : DTI := fun r st R => f r st fun x st1 => onLk st1 x fun n ob ys kvs => R ⟨itemsK kvs, some (n, .lk ob ys kvs)⟩ st1
def wKeysK (f : DTE) : DTI := fun r st R => f r st fun x st1 => onLk st1 x fun n ob ys kvs => R ⟨keysK kvs, some (n, .lk ob ys kvs)⟩ st1
theorem kvs_get {K : Frag} {M : Pl} {H : Hp} {kvs : List (Key × D)} {ys : List (Key × V)} (ks : kvs.map (·.1) = ys.map (·.1)) (vs : RVs K M H (kvs.map (·.2)) (ys.map (·.2))) {i : Nat} {kd : Key × D} (h : kvs[i]? = some kd) : ∃ v, ys[i]? = some (kd.1, v) ∧ RV K M H kd.2 v := by
  have h2 : (kvs.map (·.2))[i]? = some kd.2 := by rw [List.getElem?_map, h]; rfl
  obtain ⟨v, e, rv⟩ := vs.get h2
  have h1 : (kvs.map (·.1))[i]? = some kd.1 := by rw [List.getElem?_map, h]; rfl
  rw [ks, List.getElem?_map] at h1
  rw [List.getElem?_map] at e
  obtain ⟨y, ey, e1⟩ := Option.map_eq_some_iff.mp h1
  rw [ey] at e
  cases e
  exact ⟨y.2, by rw [ey, ← e1], rv⟩
section
variable {T : List (Addr × Str)} {X : Cx} {K : Frag} {M : Pl} {H : Hp} {st : DSt} {n : Nat} {a : Addr} {ob : Obj} {ys : List (Key × V)} {kvs : List (Key × D)}
theorem itok_keys (hm : M.at_ n = some a) : ItOk T K M H (Itk a ob ys) ⟨keysK kvs, some (n, .lk ob ys kvs)⟩ := by
  refine ⟨fun M' H' st' l s ok i d e => ?_, fun M' H' st' l s ok => ?_⟩
  · rcases ok with z | ⟨n', o, z, q⟩
    · cases z
    · cases z
      obtain ⟨h1, h2, h3⟩ := s.obj _ a _ (l.get _ _ hm) q
      have e' : (kvs.map fun kv => kD kv.1)[i]? = some d := e
      rw [List.getElem?_map] at e'
      obtain ⟨kd, e1, rfl⟩ := Option.map_eq_some_iff.mp e'
      obtain ⟨v, e2, rv⟩ := kvs_get h2 h3 e1
      refine ⟨⟨h1, (List.getElem?_eq_some_iff.mp e2).1⟩, fun x H'' y => ?_⟩
      obtain ⟨rfl, k, w, e3, rfl⟩ := y
      rw [e2] at e3
      cases e3
      exact ⟨Grow.refl _ _, s, RV.kD _⟩
  · rcases ok with z | ⟨n', o, z, q⟩
    · cases z
    · cases z
      obtain ⟨h1, h2, h3⟩ := s.obj _ a _ (l.get _ _ hm) q
      refine ⟨h1, ?_⟩
      have l2 := congrArg List.length h2
      rw [List.length_map, List.length_map] at l2
      show ys.length ≤ (kvs.map _).length
      rw [List.length_map]
      omega
theorem di_keysK {tg : Expr} {e : Expr} {f : DTE} (he : DE T X e f) : DI T X tg e (wKeysK f) :=
  PI.imp (pi_keys he) fun σ H R ⟨M, r, st, R', s, re, h, k⟩ => ⟨M, r, st, _, s, re, h, fun M1 H1 st1 x vx g1 s1 r1 q => by
    obtain ⟨n, ob, ys, kvs, rfl, e1, q⟩ := onLk.of q
    cases r1 with
    | ref hm =>
      obtain ⟨h1, h2, h3⟩ := s1.obj _ _ _ hm e1
      exact ⟨_, ob, rfl, .inl ⟨ys, h1, k M1 H1 st1 _ _ g1 s1 q (itok_keys hm)⟩⟩⟩
def lkN (n : Nat) (o u : O) (N : DEnv → DSt → Prop) : DEnv → DSt → Prop := fun r st => st[n]? = some o ∧ N r (st.set n u)
def lkE (n : Nat) (o u : O) (E : DEnds) : DEnds := { nx := lkN n o u E.nx, rt := fun d st => st[n]? = some o ∧ E.rt d (st.set n u), bk := lkN n o u E.bk, ct := lkN n o u E.ct }
def sLockK (i : Nat) (F : DTS) : DTS := fun E r st => onOO r[i]? fun x => onDk st x fun n kvs => ∀ ob ys, F (lkE n (.lk ob ys kvs) (.dK kvs) E) r (st.set n (.lk ob ys kvs))
def dLockK (i : Nat) (f : DTE) : DTE := fun r st Q => onOO r[i]? fun x => onDk st x fun n kvs => ∀ ob ys, f r (st.set n (.lk ob ys kvs)) fun d st1 => st1[n]? = some (.lk ob ys kvs) ∧ Q d (st1.set n (.dK kvs))
theorem unlk {M M1 : Pl} {H H1 : Hp} {st1 : DSt} (hm : M.at_ n = some a) (nd : M.m.Nodup) (g : Grow M (L2.upd H a (.frz ob (.dK ys))) M1 H1) (s1 : RS T K M1 st1 H1) (e : st1[n]? = some (.lk ob ys kvs)) :
    H1 a = some (.frz ob (.dK ys)) ∧ Grow M H M1 (L2.upd H1 a (.dK ys)) ∧ Grow M1 H1 M1 (L2.upd H1 a (.dK ys)) ∧ RS T K M1 (st1.set n (.dK kvs)) (L2.upd H1 a (.dK ys)) := by
  have hm1 := g.get hm
  obtain ⟨h1, h2, h3⟩ := s1.obj _ _ _ hm1 e
  have gw : Grow M1 H1 M1 (L2.upd H1 a (.dK ys)) := Grow.write s1.nd hm1
  have g0 : Grow M H M (L2.upd H a (.frz ob (.dK ys))) := Grow.write nd hm
  exact ⟨h1, (g0.trans g).trans gw, gw, s1.write (u := .dK kvs) hm1 ⟨ys, upd_same, h2, h3.grow gw⟩⟩
theorem ds_lockK {i : Nat} {s0 : Stmt} {F : DTS} (h : DSt1 T X s0 F) : DSt1 T X s0 (sLockK i F) := PS.imp (ps_lock h) fun E σ H ⟨M, r, st, E', s, re, hf, k⟩ => by
  obtain ⟨x, ex, hf⟩ := onOO.of hf
  obtain ⟨n, kvs, rfl, e, hf⟩ := onDk.of hf
  obtain ⟨v, _, rv⟩ := re.at_ i _ ex
  obtain ⟨a, ys, rfl, hm, hp, kv⟩ := onDk.rd s rv e
  refine ⟨a, .dK ys, hp, trivial, fun od => ?_⟩
  have gw : Grow M H M (L2.upd H a (.frz od (.dK ys))) := Grow.write s.nd hm
  have s1 : RS T X.K M (st.set n (.lk od ys kvs)) (L2.upd H a (.frz od (.dK ys))) := s.write (u := .lk od ys kvs) hm ⟨upd_same, kv.ks, (kv.grow gw).vs⟩
  refine ⟨M, r, _, _, s1, re.grow gw, hf od ys, ?_, ?_, ?_, ?_⟩
  · intro M1 H1 σ1 r1 st1 g1 s1' re1 q
    obtain ⟨z1, z2, z3, z4⟩ := unlk hm s.nd g1 s1' q.1
    exact ⟨z1, k.nx M1 _ σ1 r1 _ z2 z4 (re1.grow z3) q.2⟩
  · intro M1 H1 st1 d w g1 s1' r1 q
    obtain ⟨z1, z2, z3, z4⟩ := unlk hm s.nd g1 s1' q.1
    exact ⟨z1, k.rt M1 _ _ d w z2 z4 (r1.grow z3) q.2⟩
  · intro M1 H1 σ1 r1 st1 g1 s1' re1 q
    obtain ⟨z1, z2, z3, z4⟩ := unlk hm s.nd g1 s1' q.1
    exact ⟨z1, k.bk M1 _ σ1 r1 _ z2 z4 (re1.grow z3) q.2⟩
  · intro M1 H1 σ1 r1 st1 g1 s1' re1 q
    obtain ⟨z1, z2, z3, z4⟩ := unlk hm s.nd g1 s1' q.1
    exact ⟨z1, k.ct M1 _ σ1 r1 _ z2 z4 (re1.grow z3) q.2⟩
def onDr (st : DSt) (x : D) (k : List (Key × D) → Prop) : Prop := match x with
  | .ref n => match st[n]? with | some (.dK kvs) => k kvs | some (.lk _ _ kvs) => k kvs | _ => False
  | _ => False
theorem onDr_l {n : Nat} {k : List (Key × D) → Prop} (h : st[n]? = some (.lk ob ys kvs)) : onDr st (.ref n) k = k kvs := by unfold onDr; simp only [h]
theorem onDr.rd {d : D} {v : V} {k : List (Key × D) → Prop} (s : RS T K M st H) (r : RV K M H d v) (h : onDr st d k) : ∃ a kvs ys, v = .ref a ∧ Rd H a (.dK ys) ∧ KVs K M H kvs ys ∧ k kvs := by
  cases d with
  | ref n =>
    unfold onDr at h
    simp only at h
    cases r with
    | ref hm =>
      split at h
      · rename_i kvs e
        obtain ⟨ys, e1, e2, e3⟩ := s.obj n _ _ hm e
        exact ⟨_, kvs, ys, rfl, .inl e1, ⟨e2, e3⟩, h⟩
      · rename_i ob ys kvs e
        obtain ⟨e1, e2, e3⟩ := s.obj n _ _ hm e
        exact ⟨_, kvs, ys, rfl, .inr ⟨_, e1⟩, ⟨e2, e3⟩, h⟩
      · exact h.elim
  | _ => exact h.elim
theorem DGet.r {H : Hp} {a : Addr} {kvs : List (Key × V)} {k : Key} (e : Rd H a (.dK kvs)) : DGet H a (kV k) (valV kvs k) := .inl ⟨kvs, k, e, rfl, rfl⟩
def dGetR : DR2 := fun x y st Q => onDr st x fun kvs => onO (keyD y) fun k => onO (valD kvs k) fun d => Q d st
variable {b c : Expr} {fa fb fc : DTE} {pos : Pos} {aa : Expr}
theorem de_getR (hu : X.A.units + 1 < cLine) (ha : DE T X aa fa) (hb : DE T X b fb) (hs : NoSl b) : DE T X (.Subscript aa b pos) (dOp dGetR fa fb) := PE.imp (pe_dget hu ha hb hs) fun σ H Q ⟨M, r, st, Q', s, re, h, k⟩ =>
  ⟨M, r, st, _, s, re, h, fun M1 H1 st1 x vx g1 s1 r1 h1 => ⟨M1, r, st1, _, s1, re.grow g1, h1, fun M2 H2 st2 y vy g2 s2 r2 h2 => by
    obtain ⟨p, kvs, ys, rfl, hp, kv, h2⟩ := onDr.rd s2 (r1.grow g2) h2
    obtain ⟨kk, ek, h2⟩ := onO.of h2
    obtain ⟨d, ed, h2⟩ := onO.of h2
    have := r2.key ek
    subst this
    rcases kv.val (k := kk) with ⟨z, _⟩ | ⟨d', v, z, z2, rv⟩
    · rw [z] at ed; cases ed
    · rw [z] at ed
      cases ed
      refine ⟨p, v, rfl, ?_, ((k.grow g1).grow g2).here s2 rv h2⟩
      rw [← z2]
      exact DGet.r hp⟩⟩
def dInR (neg : Bool) (fy fd : DTE) : DTE := fun r st Q => fy r st fun y st1 => fd r st1 fun x st2 => onDr st2 x fun kvs => onO (keyD y) fun k => Q (.bl (if neg then !(valD kvs k).isSome else (valD kvs k).isSome)) st2
def prD : D → Option (Key × D)
  | .tup [k, v] => (keyD k).map fun q => (q, v)
  | .tuk [k, v] => (keyD k).map fun q => (q, v)
  | _ => none
def prsD : List D → Option (List (Key × D))
  | [] => some []
  | d :: ds => match prD d with | none => none | some p => (prsD ds).map (p :: ·)
def mergeD (kvs more : List (Key × D)) : List (Key × D) := more.foldl (fun acc kv => putD acc kv.1 kv.2) kvs
theorem RV.pair {d : D} {v : V} {kd : Key × D} (r : RV K M H d v) (e : prD d = some kd) : ∃ p w, v = .ref p ∧ SqT K H p [kV kd.1, w] ∧ RV K M H kd.2 w := by
  cases r with
  | tup nn h q rs =>
    unfold prD at e
    split at e
    · rename_i k w z
      cases z
      obtain ⟨kk, ek, rfl⟩ := Option.map_eq_some_iff.mp e
      cases rs with
      | cons r1 rs => cases rs with
        | cons r2 rs => cases rs; rw [r1.key ek] at h; exact ⟨_, _, rfl, .inl (.inr ⟨_, h⟩), r2⟩
    · rename_i z; cases z
    · cases e
  | tuk nn h rs =>
    unfold prD at e
    split at e
    · rename_i z; cases z
    · rename_i k w z
      cases z
      obtain ⟨kk, ek, rfl⟩ := Option.map_eq_some_iff.mp e
      cases rs with
      | cons r1 rs => cases rs with
        | cons r2 rs => cases rs; rw [r1.key ek] at h; exact ⟨_, _, rfl, .inl (.inl h), r2⟩
    · cases e
  | _ => cases e
def dDictP : DRs := fun ds st Q => on1 ds fun x => onO (seqL st x) fun xs => onO (prsD xs) fun kvs => Q (.ref st.length) (st ++ [.dK (mergeD [] kvs)])
where seqL (st : DSt) : D → Option (List D)
  | .lst ds => some ds
  | .ref n => match st[n]? with | some (.lst ds) => some ds | _ => none
  | _ => none
theorem seqL.rd {d : D} {v : V} {xs : List D} (s : RS T K M st H) (r : RV K M H d v) (e : dDictP.seqL st d = some xs) : ∃ a us, v = .ref a ∧ SqL K H a us ∧ RVs K M H xs us := by
  cases r with
  | lst nn h rs => cases e; exact ⟨_, _, rfl, .inl (.inl h), rs⟩
  | ref hm =>
    obtain ⟨o, e1, ro⟩ := s.atM hm
    unfold dDictP.seqL at e
    simp only [e1] at e
    cases o with
    | lst zs => cases e; obtain ⟨us, q, rs⟩ := ro; exact ⟨_, us, rfl, .inl (.inl q), rs⟩
    | dK _ => cases e
    | dT _ => cases e
    | lk _ _ _ => cases e
  | _ => cases e
end
@[simp] theorem e_lockK {i : Nat} {F : DTS} {E : DEnds} {r : DEnv} {st : DSt} : sLockK i F E r st = onOO r[i]? fun x => onDk st x fun n kvs => ∀ ob ys, F (lkE n (.lk ob ys kvs) (.dK kvs) E) r (st.set n (.lk ob ys kvs)) := rfl
@[simp] theorem e_dlockK {i : Nat} {f : DTE} {Q : DK} {r : DEnv} {st : DSt} : dLockK i f r st Q = onOO r[i]? fun x => onDk st x fun n kvs => ∀ ob ys, f r (st.set n (.lk ob ys kvs)) fun d st1 => st1[n]? = some (.lk ob ys kvs) ∧ Q d (st1.set n (.dK kvs)) := rfl
@[simp] theorem e_wItemsK {f : DTE} {r : DEnv} {st : DSt} {R : DIt → DSt → Prop} : wItemsK f r st R = f r st fun x st1 => onLk st1 x fun n ob ys kvs => R ⟨itemsK kvs, some (n, .lk ob ys kvs)⟩ st1 := rfl
@[simp] theorem e_wKeysK {f : DTE} {r : DEnv} {st : DSt} {R : DIt → DSt → Prop} : wKeysK f r st R = f r st fun x st1 => onLk st1 x fun n ob ys kvs => R ⟨keysK kvs, some (n, .lk ob ys kvs)⟩ st1 := rfl
@[simp] theorem e_getR {x y : D} {st : DSt} {Q : DK} : dGetR x y st Q = onDr st x fun kvs => onO (keyD y) fun k => onO (valD kvs k) fun d => Q d st := rfl
@[simp] theorem e_inR {fa fb : DTE} {r : DEnv} {st : DSt} {Q : DK} : dInR false fa fb r st Q = fa r st fun y st1 => fb r st1 fun x st2 => onDr st2 x fun kvs => onO (keyD y) fun k => Q (.bl (valD kvs k).isSome) st2 := rfl
@[simp] theorem e_ninR {fa fb : DTE} {r : DEnv} {st : DSt} {Q : DK} : dInR true fa fb r st Q = fa r st fun y st1 => fb r st1 fun x st2 => onDr st2 x fun kvs => onO (keyD y) fun k => Q (.bl (!(valD kvs k).isSome)) st2 := rfl
@[simp] theorem e_dictP {x : D} {st : DSt} {Q : DK} : dDictP [x] st Q = onO (dDictP.seqL st x) fun xs => onO (prsD xs) fun kvs => Q (.ref st.length) (st ++ [.dK (mergeD [] kvs)]) := rfl
end DL
namespace DL
open PySem PySem.Spec PyProof.Rows L2 LamX PySem.W SL
def lexL : List Int → List Int → Bool
  | [], [] => false
  | [], _ :: _ => true
  | _ :: _, [] => false
  | p :: r, q :: s => if p = q then lexL r s else decide (p < q)
theorem lexL_asym : ∀ l m : List Int, lexL l m = true → lexL m l = false
  | [], [], h => by cases h
  | [], _ :: _, _ => rfl
  | _ :: _, [], h => by cases h
  | p :: r, q :: s, h => by
    unfold lexL at h ⊢
    by_cases e : p = q
    · rw [if_pos e] at h
      rw [if_pos e.symm]
      exact lexL_asym r s h
    · rw [if_neg e] at h
      rw [if_neg (fun z => e z.symm)]
      have := of_decide_eq_true h
      exact decide_eq_false (by omega)
theorem lexL_ntr : ∀ x y z : List Int, lexL y x = false → lexL z y = false → lexL z x = false
  | [], _, [], _, _ => rfl
  | [], _, _ :: _, _, _ => rfl
  | _ :: _, [], _, h, _ => by cases h
  | _ :: _, _ :: _, [], _, h => by cases h
  | p :: r, q :: s, u :: t, h1, h2 => by
    unfold lexL at h1 h2 ⊢
    by_cases e1 : q = p
    · by_cases e2 : u = q
      · rw [if_pos e1] at h1
        rw [if_pos e2] at h2
        rw [if_pos (e2.trans e1)]
        exact lexL_ntr r s t h1 h2
      · rw [if_neg e2] at h2
        rw [if_neg (by omega)]
        have := of_decide_eq_false h2
        exact decide_eq_false (by omega)
    · rw [if_neg e1] at h1
      have w1 := of_decide_eq_false h1
      by_cases e2 : u = q
      · rw [if_neg (by omega)]
        exact decide_eq_false (by omega)
      · rw [if_neg e2] at h2
        have w2 := of_decide_eq_false h2
        rw [if_neg (by omega)]
        exact decide_eq_false (by omega)
theorem lexL_swo {α : Type} (k : α → List Int) : SrtO.Swo fun v u => lexL (k v) (k u) := ⟨fun x y h => lexL_asym _ _ h, fun x y z h1 h2 => lexL_ntr _ _ _ h1 h2⟩
section
variable {prog : Program} {w : World} {A : Around} {E : Value → Shared → Prop} {s : Shared}
theorem lex_walk {Q : Bool → Shared → Prop} {f : Bool} {us vs : List Value} {ms ns : List Int} (j : Nat) (hu : IntsAre us ms) (hv : IntsAre vs ns) (e : ms.length = ns.length) (h : Q (lexL ms ns) s) : PySem.W.KatLex prog w A f false Q (us.zip vs) j s := by
  induction hu generalizing vs ns j with
  | nil =>
    cases hv with
    | nil => exact PySem.W.kat_nil h
    | cons a b c => simp at e
  | @cons a ta us ms hu ih =>
    cases hv with
    | nil => simp at e
    | @cons b tb vs ns hv =>
      have e' : ms.length = ns.length := by simpa using e
      show PySem.W.KatLex prog w A f false Q ((Value.int a ta, Value.int b tb) :: us.zip vs) j s
      refine PySem.W.kat_cons (SeqAt.EqAt.int_int a ta b tb prog w _ _ ?_)
      unfold lexL at h
      by_cases z : a = b
      · rw [if_pos z] at h
        rw [z, show (b == b) = true from beq_self_eq_true b]
        exact PySem.W.kat_yes (ih (j + 1) hv e' h)
      · rw [if_neg z] at h
        rw [show (a == b) = false from beq_eq_false_iff_ne.mpr z]
        exact PySem.W.kat_no (TS.oneLt_ints _ h)
def NumT (h : Heap) (k : Value → List Int) (d : Nat) (vs : List Value) : Prop := ∀ v ∈ vs, TS.TupInts h v (k v) ∧ (k v).length = d
theorem NumT.firsts {h : Heap} {k : Value → List Int} {d : Nat} (hd : 1 ≤ d) : ∀ vs : List Value, NumT h k d vs → ∃ fs, PySem.W.KatTups h vs fs ∧ fs.length = vs.length ∧ ∀ f ∈ fs, ∃ n t, f = Value.int n t
  | [], _ => ⟨[], PySem.W.KatTups.nil, rfl, fun f z => by cases z⟩
  | v :: vs, x => by
    obtain ⟨fs, h1, h2, h3⟩ := NumT.firsts hd vs fun u hu => x u (List.mem_cons_of_mem _ hu)
    obtain ⟨⟨a, xs, e0, ⟨o, ho, hc, n, hdt⟩, i⟩, ln⟩ := x v List.mem_cons_self
    have nz : 0 < xs.toList.length := by
      have := i.length
      omega
    have lt : 0 < xs.size := by rw [← Array.length_toList]; exact nz
    obtain ⟨m, t, hy⟩ := i.all xs[0] (by rw [← Array.getElem_toList]; exact List.getElem_mem _)
    rw [e0]
    refine ⟨xs[0] :: fs, PySem.W.KatTups.cons ho hc hdt (Array.getElem?_eq_getElem lt) h1, by rw [List.length_cons, List.length_cons, h2], fun f hf => ?_⟩
    rcases List.mem_cons.mp hf with z | z
    · rw [z]; exact ⟨m, t, hy⟩
    · exact h3 f z
theorem numT_cmp {vs : List Value} {k : Value → List Int} {d : Nat} (x : NumT s.heap k d vs) : SrtO.Cmp prog w A s (tuples' true) (fun p => p.1 ∈ vs) (SrtO.lt2 fun v u => lexL (k v) (k u)) := by
  intro p q hp hq
  obtain ⟨⟨a, xs, e1, ⟨o, ho, hc, n, hd⟩, i⟩, l1⟩ := x _ hp
  obtain ⟨⟨b, ys, e2, ⟨u, hu, hcu, m, hdu⟩, j⟩, l2⟩ := x _ hq
  show wpAny (model prog w) A (keyLt' (tuples' true) p.1 q.1) (fun r s' => s' = s ∧ r = lexL (k p.1) (k q.1)) (fun _ _ => False) s
  generalize k p.1 = kp at *
  generalize k q.1 = kq at *
  rw [e1, e2]
  refine PySem.W.kat_lt ho hd hu hdu ?_
  have sz : decide (xs.size < ys.size) = false := by
    have z1 := i.length
    have z2 := j.length
    rw [Array.length_toList] at z1 z2
    exact decide_eq_false (by omega)
  rw [sz]
  exact lex_walk 0 i j (l1.trans l2.symm) ⟨rfl, rfl⟩
theorem numT_sortable {a : Addr} {vs : List Value} {k : Value → List Int} {d : Nat} (hd : 1 ≤ d) (ne : 0 < vs.length) (x : NumT s.heap k d vs) (ha : ∀ o, s.heap.get? a = some o → o.cls ≠ .type "tuple") : SrtO.SortableO prog w A s a vs fun v u => lexL (k v) (k u) := by
  intro h' keep
  have x' : NumT h' k d vs := fun v hv => ⟨(x v hv).1.keeps fun b o e c => keep b o (fun z => by subst z; exact ha o e c) e, (x v hv).2⟩
  obtain ⟨fs, h1, h2, h3⟩ := NumT.firsts hd vs x'
  refine ⟨tuples' true, fun Q E hq => ?_, numT_cmp x'⟩
  refine PySem.W.kat_kind (T := .type "int") h1 (by omega) (fun f hf => ?_) (by rfl) ?_
  · obtain ⟨n, t, rfl⟩ := h3 f hf
    exact PySem.W.Looks.now
  · rw [show (Value.type "int" != Value.type "tuple") = true by decide +kernel]
    exact hq
end
def rSortTs (K : PySem.W.Frag) : List V → Hp → VK → Prop := fun vs H Q => ∃ (a : Addr) (xs : List V) (k : V → List Int) (d : Nat), vs = [V.ref a] ∧ SqL K H a xs ∧ 1 ≤ d ∧ (∀ x ∈ xs, ∃ t, x = V.ref t ∧ SqT K H t ((k x).map V.int) ∧ (k x).length = d) ∧
  ∀ ys p, ys.Perm xs → ys.Pairwise (fun x y => lexL (k y) (k x) = false) → H p = none → Q (.ref p) (L2.upd H p (.lst ys))
theorem cr_sortTs {X : Cx} : CallR X (.builtin "sorted") (rSortTs X.K) := by
  intro pins s σ H vs us Q I r h
  obtain ⟨a, xs, k, d, rfl, hs, hd, hx, q⟩ := h
  obtain ⟨its, rv, hl, hz⟩ := I.list hs
  obtain ⟨u, rfl, ru⟩ := vals1 r
  obtain rfl : u = Value.ref a := ru
  obtain ⟨e1, e2⟩ := refs_back rv fun x m => (hx x m).imp fun t z => z.1
  have lz : its.length ≤ sizeLine := by rw [← rv.length]; exact hz
  have num : NumT s.heap (fun v => k (backV v)) d its := fun v hv => by
    obtain ⟨t, rfl⟩ := e2 v hv
    obtain ⟨t', z, sq, ln⟩ := hx (V.ref t) (by rw [e1]; exact List.mem_map.mpr ⟨_, hv, rfl⟩)
    cases z
    obtain ⟨ws, rw_, it, _⟩ := I.tuple sq
    exact ⟨⟨t, ws.toArray, rfl, it, by rw [List.toList_toArray]; exact Vals.ints rw_⟩, ln⟩
  refine SrtO.sorted_ord (lexL_swo fun v => k (backV v)) hl.isList lz (fun h2 h₁ b hb kk => ?_) fun out so sb => ?_
  · refine numT_sortable (s := { s with heap := h₁ }) hd (by omega) (fun v hv => ⟨(num v hv).1.keeps fun c o e _ => (kk c o e).2, (num v hv).2⟩) fun o e c => ?_
    have z : some o = some (seqObj "list" its.toArray 0) := e.symm.trans hb
    cases z
    exact absurd (Value.type.inj c) (by decide)
  · have h3 : ∀ v ∈ out, ∃ b, v = Value.ref b := fun v hv => e2 v (sb.perm.mem_iff.mp hv)
    obtain ⟨n, hn⟩ := sortedAll_at s.heap its out.toArray
    refine ⟨.ref _, L2.upd H _ (.lst (out.map backV)), I.laid (t' := s.toks) (fun b o e => sortedAll_old e) (Nat.le_succ _) ⟨?_, out, n, vals_back h3, hn⟩, rfl, q _ _ ?_ ?_ (I.hok.fresh (Nat.le_succ _))⟩
    · rw [List.length_map, sb.len]; exact lz
    · rw [e1]; exact sb.perm.map backV
    · exact List.pairwise_map.mpr so
def numsD : D → Option (List Int)
  | .tup ds => intsD ds
  | .tuk ds => intsD ds
  | _ => none
def numOf (H : Hp) (v : V) : List Int := match v with
  | .ref a => match H a with
    | some (.tup xs) => xs.map fun x => match x with | .int i => i | _ => 0
    | some (.frz _ (.tup xs)) => xs.map fun x => match x with | .int i => i | _ => 0
    | _ => []
  | _ => []
def datOf (H : Hp) (v : V) : D := match v with
  | .ref a => match H a with
    | some (.tup xs) => .tuk (xs.map fun x => match x with | .int i => .int i | _ => .non)
    | some (.frz _ (.tup xs)) => .tup (xs.map fun x => match x with | .int i => .int i | _ => .non)
    | _ => .non
  | _ => .non
theorem back_i (ns : List Int) : (ns.map V.int).map (fun x => match x with | .int i => i | _ => 0) = ns := by
  rw [List.map_map]
  exact (List.map_congr_left fun i _ => rfl).trans (List.map_id ns)
theorem back_d (ns : List Int) : (ns.map V.int).map (fun x => match x with | .int i => D.int i | _ => .non) = ns.map D.int := by
  rw [List.map_map]
  exact List.map_congr_left fun i _ => rfl
theorem RV.nums {K : Frag} {M : Pl} {H : Hp} {d : D} {v : V} {ns : List Int} (r : RV K M H d v) (e : numsD d = some ns) : ∃ t, v = V.ref t ∧ SqT K H t (ns.map V.int) ∧ numOf H v = ns ∧ datOf H v = d := by
  cases r with
  | tup n h q rs =>
    have e' := intsD_of e
    subst e'
    have z := rs.ints
    subst z
    exact ⟨_, rfl, .inl (.inr ⟨_, h⟩), by simp only [numOf, h]; exact back_i ns, by simp only [datOf, h]; rw [back_d]⟩
  | tuk n h rs =>
    have e' := intsD_of e
    subst e'
    have z := rs.ints
    subst z
    exact ⟨_, rfl, .inl (.inl h), by simp only [numOf, h]; exact back_i ns, by simp only [datOf, h]; rw [back_d]⟩
  | _ => cases e
theorem RVs.dats {K : Frag} {M : Pl} {H : Hp} : ∀ {ds : List D} {vs : List V}, RVs K M H ds vs → (∀ x ∈ ds, ∃ ns, numsD x = some ns) → vs.map (datOf H) = ds
  | _, _, .nil, _ => rfl
  | _, _, .cons r rs, h => by
    obtain ⟨ns, e⟩ := h _ List.mem_cons_self
    obtain ⟨t, _, _, _, z⟩ := r.nums e
    rw [List.map_cons, z, RVs.dats rs fun x hx => h x (List.mem_cons_of_mem _ hx)]
theorem RVs.of_mem {K : Frag} {M : Pl} {H : Hp} {f : V → D} : ∀ {ys : List V}, (∀ v ∈ ys, RV K M H (f v) v) → RVs K M H (ys.map f) ys
  | [], _ => .nil
  | v :: ys, h => .cons (h v List.mem_cons_self) (RVs.of_mem fun u hu => h u (List.mem_cons_of_mem _ hu))
theorem RVs.mem2 {K : Frag} {M : Pl} {H : Hp} : ∀ {ds : List D} {vs : List V}, RVs K M H ds vs → ∀ v ∈ vs, ∃ d ∈ ds, RV K M H d v
  | _, _, .nil, v, h => by cases h
  | _, _, .cons r rs, v, h => by
    rcases List.mem_cons.mp h with z | z
    · rw [z]; exact ⟨_, List.mem_cons_self, r⟩
    · obtain ⟨d, hd, rv⟩ := RVs.mem2 rs v z
      exact ⟨d, List.mem_cons_of_mem _ hd, rv⟩
def dSortTs (fin : DK → List D → DSt → Prop) : DRs := fun ds st Q => on1 ds fun x => onO (dDictP.seqL st x) fun xs => ∃ d, 1 ≤ d ∧ (∀ x ∈ xs, ∃ ns, numsD x = some ns ∧ ns.length = d) ∧ ∀ out : List D, out.Perm xs → out.Pairwise (fun x y => lexL ((numsD y).getD []) ((numsD x).getD []) = false) → fin Q out st
theorem callD_sortTs {T : List (Addr × Str)} {K : Frag} {fin : DK → List D → DSt → Prop} (fo : fin = finT ∨ fin = finN) : CallD T K (rSortTs K) (dSortTs fin) := by
  intro M H st ds vs Q' Q s r h k
  obtain ⟨x, rfl, h⟩ := on1.of h
  obtain ⟨xs, e, d, hd, hx, h⟩ := onO.of h
  obtain ⟨v, rfl, rv⟩ := r.one
  obtain ⟨a, us, rfl, sq, rs⟩ := seqL.rd s rv e
  have dat := rs.dats fun x m => (hx x m).imp fun ns z => z.1
  have one : ∀ w ∈ us, ∃ dw ∈ xs, ∃ ns, RV K M H dw w ∧ numsD dw = some ns ∧ ns.length = d ∧ numOf H w = ns ∧ datOf H w = dw ∧ ∃ t, w = V.ref t ∧ SqT K H t (ns.map V.int) := fun w hw => by
    obtain ⟨dw, hdw, rw_⟩ := rs.mem2 w hw
    obtain ⟨ns, en, ln⟩ := hx dw hdw
    obtain ⟨t, z1, z2, z3, z4⟩ := rw_.nums en
    exact ⟨dw, hdw, ns, rw_, en, ln, z3, z4, t, z1, z2⟩
  refine ⟨a, us, numOf H, d, rfl, sq, hd, fun w hw => ?_, fun ys p pm so np => ?_⟩
  · obtain ⟨dw, hdw, ns, rw_, en, ln, z3, z4, t, z1, z2⟩ := one w hw
    exact ⟨t, z1, by rw [z3]; exact z2, by rw [z3]; exact ln⟩
  · refine fin_new' fo k s (ds := ys.map (datOf H)) (RVs.of_mem fun w hw => ?_) np (h _ ?_ ?_)
    · obtain ⟨dw, hdw, ns, rw_, en, ln, z3, z4, _⟩ := one w (pm.mem_iff.mp hw)
      rw [z4]
      exact rw_
    · rw [← dat]
      exact pm.map _
    · refine List.pairwise_map.mpr (so.imp_of_mem fun {w u} hw hu z => ?_)
      obtain ⟨dw, _, ns, _, en, _, z3, z4, _⟩ := one w (pm.mem_iff.mp hw)
      obtain ⟨du, _, ms, _, em, _, y3, y4, _⟩ := one u (pm.mem_iff.mp hu)
      rw [z3, y3] at z
      rw [z4, y4, en, em]
      exact z
@[simp] theorem e_sortTs {fin : DK → List D → DSt → Prop} {x : D} {st : DSt} {Q : DK} : dSortTs fin [x] st Q = onO (dDictP.seqL st x) fun xs => ∃ d, 1 ≤ d ∧ (∀ x ∈ xs, ∃ ns, numsD x = some ns ∧ ns.length = d) ∧ ∀ out : List D, out.Perm xs → out.Pairwise (fun x y => lexL ((numsD y).getD []) ((numsD x).getD []) = false) → fin Q out st := rfl
end DL
namespace DL
open PySem PySem.Spec PyProof.Rows L2 LamX PySem.W SL
def dMaxTs : DRs := fun ds st Q => on1 ds fun x => onO (dDictP.seqL st x) fun xs => 0 < xs.length ∧ (∀ d ∈ xs, ∃ ns, numsD d = some ns) ∧ ∀ d ∈ xs, (∀ e ∈ xs, lexL ((numsD d).getD []) ((numsD e).getD []) = false) → Q d st
@[simp] theorem e_maxTs {x : D} {st : DSt} {Q : DK} : dMaxTs [x] st Q = onO (dDictP.seqL st x) fun xs => 0 < xs.length ∧ (∀ d ∈ xs, ∃ ns, numsD d = some ns) ∧ ∀ d ∈ xs, (∀ e ∈ xs, lexL ((numsD d).getD []) ((numsD e).getD []) = false) → Q d st := rfl
@[simp] theorem e_pop {x : D} {ds : List D} {st : DSt} {Q : DK} : mPop x ds st Q = (ds = [] ∧ onL st x fun n xs => onO xs[xs.length - 1]? fun d => Q d (st.set n (.lst xs.dropLast))) := rfl
end DL
namespace DL
open PySem PySem.Spec PyProof.Rows L2 LamX PySem.W SL
end DL
namespace DL
open PySem PySem.Spec PyProof.Rows L2 LamX PySem.W SL
theorem erase_perm {α : Type} : ∀ (h : List α) (r : Nat) (lt : r < h.length), (h.eraseIdx r ++ [h[r]]).Perm h
  | x :: t, 0, _ => by
    show (t ++ [x]).Perm (x :: t)
    exact List.perm_append_comm
  | x :: t, r + 1, lt => by
    have l2 : r < t.length := by simpa using lt
    show (x :: (t.eraseIdx r ++ [t[r]])).Perm (x :: t)
    exact List.Perm.cons x (erase_perm t r l2)
end DL
namespace DL
open PySem PySem.Spec PyProof.Rows L2 LamX PySem.W SL
end DL
namespace DL
open PySem PySem.Spec PyProof.Rows L2 LamX PySem.W SL
end DL
namespace DL
open PySem PySem.Spec PyProof.Rows L2 LamX PySem.W SL
end DL
namespace DL
open PySem PySem.Spec PyProof.Rows L2 LamX PySem.W SL
end DL
namespace ML
theorem sumN_zero (n : Nat) : sumN n (fun _ => (0 : Int)) = 0 := by rw [sumN_const]; simp
theorem sumN_sub (n : Nat) (g h : Nat → Int) : sumN n (fun i => g i - h i) = sumN n g - sumN n h := by
  induction n with
  | zero => rfl
  | succ n ih => simp only [sumN]; rw [ih]; omega
theorem sumN_mul (n : Nat) (a : Int) (g : Nat → Int) : sumN n (fun i => a * g i) = a * sumN n g := by
  induction n with
  | zero => simp [sumN]
  | succ n ih => simp only [sumN]; rw [ih, Int.mul_add]
theorem sumN_swap (n m : Nat) (g : Nat → Nat → Int) : sumN n (fun i => sumN m (fun j => g i j)) = sumN m (fun j => sumN n (fun i => g i j)) := by
  induction n with
  | zero => simp only [sumN]; exact (sumN_zero m).symm
  | succ n ih => simp only [sumN]; rw [ih, ← sumN_add]
theorem sumN_split (a b : Nat) (g : Nat → Int) : sumN (a + b) g = sumN a g + sumN b (fun i => g (a + i)) := by
  induction b with
  | zero => simp [sumN]
  | succ b ih => rw [show a + (b + 1) = (a + b) + 1 by omega]; simp only [sumN]; rw [ih]; omega
theorem sumN_one {n x : Nat} (h : x < n) : sumN n (fun i => if i = x then (1 : Int) else 0) = 1 := by
  induction n with
  | zero => omega
  | succ n ih =>
    simp only [sumN]
    by_cases e : x = n
    · subst e
      rw [if_pos rfl, sumN_congr (h := fun _ => 0) (fun i hi => if_neg (by omega)), sumN_zero]
      rfl
    · rw [if_neg (fun z => e z.symm), ih (by omega)]
      rfl
theorem sumN_dist {n a : Nat} (h : a ≤ n) (n0 : 0 < n) (g : Nat → Int) : sumN n (fun u => g (dist n a u)) = sumN n g := by
  have z := sumN_shifts (n := n) (g := fun i => g (i % n)) (fun i => by simp) (n - a)
  have e : sumN n (fun i => g (i % n)) = sumN n g := sumN_congr fun i hi => by rw [Nat.mod_eq_of_lt hi]
  rw [e] at z
  exact z
def sq (i : Nat) : Int := (i : Int) * i
theorem waits_sq (x c : Nat) : sumN c (fun k => ((x : Int) + k) * ((x : Int) + k)) = sumN (x + c) sq - sumN x sq := by
  rw [sumN_split]
  have e : sumN c (fun k => ((x : Int) + k) * ((x : Int) + k)) = sumN c (fun i => sq (x + i)) := sumN_congr fun i _ => by unfold sq; rw [Int.natCast_add]
  rw [e]
  omega
theorem sq_flows {n : Nat} {c f : Nat → Int} (F : Flow n c f) (n0 : 0 < n) (c0 : ∀ i, 0 ≤ c i) (cp : ∀ i, c (i + n) = c i) :
    sumN n (fun s => sumN (c s).toNat fun k => (f (s + (n - 1)) + (k : Int)) * (f (s + (n - 1)) + (k : Int))) = sumN n fun s => f s * f s := by
  have e : ∀ s, s < n → (sumN (c s).toNat fun k => (f (s + (n - 1)) + (k : Int)) * (f (s + (n - 1)) + (k : Int))) = sumN ((f s).toNat + 1) sq - sumN (f (s + (n - 1))).toNat sq := by
    intro s hs
    have x0 := F.nn (s + (n - 1))
    have y0 := F.nn s
    have cs := c0 s
    have ex : (((f (s + (n - 1))).toNat : Nat) : Int) = f (s + (n - 1)) := by omega
    have w := waits_sq (f (s + (n - 1))).toNat (c s).toNat
    rw [ex] at w
    rw [w]
    have st := F.rec_ (s + (n - 1))
    have e1 : s + (n - 1) + 1 = s + n := by omega
    rw [e1, F.per, cp] at st
    unfold step at st
    by_cases z : f (s + (n - 1)) + c s = 0
    · have a1 : (f (s + (n - 1))).toNat = 0 := by omega
      have a2 : (c s).toNat = 0 := by omega
      have a3 : (f s).toNat = 0 := by
        split at st <;> omega
      rw [a1, a2, a3]
      rfl
    · have a1 : (f (s + (n - 1))).toNat + (c s).toNat = (f s).toNat + 1 := by
        split at st <;> omega
      rw [a1]
  rw [sumN_congr e, sumN_sub]
  have sh := sumN_shifts (n := n) (g := fun i => sumN (f i).toNat sq) (fun i => by simp only [F.per]) (n - 1)
  rw [sh, ← sumN_sub]
  refine sumN_congr fun s hs => ?_
  have y0 := F.nn s
  show (sumN (f s).toNat sq + sq (f s).toNat) - sumN (f s).toNat sq = f s * f s
  have ey : (((f s).toNat : Nat) : Int) = f s := by omega
  unfold sq
  rw [ey]
  omega
theorem tri_sum (d : Nat) : ∀ n : Nat, d ≤ n → 2 * sumN n (fun a => sumN n fun j => if a + j < d then (1 : Int) else 0) = (d : Int) * (d + 1) := by
  have inner : ∀ (n a d : Nat), d ≤ n → sumN n (fun j => if a + j < d then (1 : Int) else 0) = ((d - a : Nat) : Int) := by
    intro n
    induction n with
    | zero => intro a d h; have : d = 0 := by omega
              subst this; simp [sumN]
    | succ n ih =>
      intro a d h
      rw [sumN_first]
      have s1 : sumN n (fun i => if a + (i + 1) < d then (1 : Int) else 0) = sumN n (fun j => if a + j < d - 1 then (1 : Int) else 0) := sumN_congr fun i _ => by
        by_cases q : a + (i + 1) < d
        · rw [if_pos q, if_pos (by omega)]
        · rw [if_neg q, if_neg (by omega)]
      rw [s1, ih a (d - 1) (by omega)]
      by_cases q : a + 0 < d
      · rw [if_pos q]; omega
      · rw [if_neg q]; omega
  have outer : ∀ (n d : Nat), d ≤ n → 2 * sumN n (fun a => ((d - a : Nat) : Int)) = (d : Int) * (d + 1) := by
    intro n
    induction n with
    | zero => intro d h; have : d = 0 := by omega
              subst this; simp [sumN]
    | succ n ih =>
      intro d h
      rw [sumN_first]
      cases d with
      | zero =>
        rw [sumN_congr (h := fun _ => (0 : Int)) (fun i _ => by simp), sumN_zero]
        simp
      | succ d =>
        have z := ih d (by omega)
        rw [sumN_congr (h := fun a => ((d - a : Nat) : Int)) (fun i _ => by rw [Nat.add_sub_add_right])]
        rw [Int.mul_add, z]
        have e : ((d + 1 - 0 : Nat) : Int) = (d : Int) + 1 := by omega
        rw [e]
        have e2 : ((d + 1 : Nat) : Int) = (d : Int) + 1 := by omega
        rw [e2]
        generalize (d : Int) = x
        rw [Int.add_mul x 1 (x + 1 + 1), Int.mul_add x (x + 1) 1]
        omega
  intro n h
  rw [sumN_congr (h := fun a => ((d - a : Nat) : Int)) fun a _ => inner n a d h]
  exact outer n d h
structure Pl (n : Nat) (o : Nat → Prop) (h d : Nat → Nat) : Prop where
  home : ∀ s, s < n → o s → h s < n
  far : ∀ s, s < n → o s → d s < n ∧ (h s + d s) % n = s
variable {n : Nat} {o : Nat → Prop} [DecidablePred o] {h d : Nat → Nat}
def ev (n : Nat) (o : Nat → Prop) [DecidablePred o] (h d : Nat → Nat) (u j s : Nat) : Int := if o s ∧ dist n (h s) u + j < d s then 1 else 0
def psd (n : Nat) (o : Nat → Prop) [DecidablePred o] (h d : Nat → Nat) (u : Nat) : Int := sumN n (ev n o h d u 0)
theorem ev_less (P : Pl n o h d) {u : Nat} (hu : u < n) (j : Nat) : sumN n (ev n o h d u j) - 1 ≤ sumN n (ev n o h d u (j + 1)) := by
  have n0 : 0 < n := by omega
  have one := sumN_one (n := n) (x := (u + (j + 1)) % n) (Nat.mod_lt _ n0)
  have le : sumN n (ev n o h d u j) ≤ sumN n (fun s => ev n o h d u (j + 1) s + if s = (u + (j + 1)) % n then (1 : Int) else 0) := sumN_le fun s hs => by
    unfold ev
    by_cases a : o s ∧ dist n (h s) u + j < d s
    · rw [if_pos a]
      by_cases b : dist n (h s) u + (j + 1) < d s
      · rw [if_pos ⟨a.1, b⟩]
        split <;> omega
      · have f := P.far s hs a.1
        have hh := P.home s hs a.1
        have e : d s = dist n (h s) u + (j + 1) := by omega
        have es : s = (u + (j + 1)) % n := by
          rw [e] at f
          rw [← f.2]
          unfold dist
          have k : (h s + (u + (n - h s)) % n) % n = u % n := by rw [Nat.add_mod_mod, show h s + (u + (n - h s)) = u + n by omega, Nat.add_mod_right]
          rw [← Nat.add_assoc, Nat.add_mod, k, ← Nat.add_mod]
        rw [if_pos es]
        split <;> omega
    · rw [if_neg a]
      split <;> split <;> omega
  rw [sumN_add, one] at le
  omega
theorem ev_ge (P : Pl n o h d) {u : Nat} (hu : u < n) : ∀ j : Nat, psd n o h d u - (j : Int) ≤ sumN n (ev n o h d u j)
  | 0 => by unfold psd; omega
  | j + 1 => by
    have a := ev_ge P hu j
    have b := ev_less P hu j
    omega
theorem ev_nn (u j : Nat) : 0 ≤ sumN n (ev n o h d u j) := by
  have z := sumN_le (n := n) (g := fun _ => (0 : Int)) (h := ev n o h d u j) fun s _ => by unfold ev; split <;> omega
  rw [sumN_zero] at z
  exact z
theorem psd_nn (u : Nat) : 0 ≤ psd n o h d u := ev_nn u 0
theorem sumN_pos : ∀ {n : Nat} {g : Nat → Int}, 0 < sumN n g → ∃ i, i < n ∧ 0 < g i
  | 0, g, p => by simp [sumN] at p
  | n + 1, g, p => by
    simp only [sumN] at p
    by_cases q : 0 < sumN n g
    · obtain ⟨i, hi, w⟩ := sumN_pos q
      exact ⟨i, by omega, w⟩
    · exact ⟨n, by omega, by omega⟩
theorem psd_far (P : Pl n o h d) {u : Nat} (hu : u < n) (p : 0 < psd n o h d u) : ∃ s, s < n ∧ o s ∧ psd n o h d u ≤ (d s : Int) := by
  have z := ev_ge P hu (psd n o h d u - 1).toNat
  obtain ⟨s, hs, w⟩ := sumN_pos (n := n) (g := ev n o h d u (psd n o h d u - 1).toNat) (by omega)
  unfold ev at w
  split at w
  · rename_i q
    exact ⟨s, hs, q.1, by omega⟩
  · omega
theorem psd_sum (P : Pl n o h d) (n0 : 0 < n) : sumN n (psd n o h d) = sumN n fun s => if o s then (d s : Int) else 0 := by
  unfold psd
  rw [sumN_swap]
  refine sumN_congr fun s hs => ?_
  unfold ev
  by_cases a : o s
  · rw [if_pos a]
    have f := P.far s hs a
    have hh := P.home s hs a
    have e : sumN n (fun u => if o s ∧ dist n (h s) u + 0 < d s then (1 : Int) else 0) = sumN n (fun u => (fun x => if x < d s then (1 : Int) else 0) (dist n (h s) u)) := sumN_congr fun u _ => by
      by_cases q : dist n (h s) u < d s
      · simp only [a, q, true_and, Nat.add_zero]
      · simp only [a, q, true_and, Nat.add_zero]
    rw [e, sumN_dist (by omega) n0 fun x => if x < d s then (1 : Int) else 0]
    have cnt : ∀ n d : Nat, d ≤ n → sumN n (fun x => if x < d then (1 : Int) else 0) = d := by
      intro n
      induction n with
      | zero => intro d hd; have : d = 0 := by omega
                subst this; rfl
      | succ n ih =>
        intro d hd
        simp only [sumN]
        by_cases q : n < d
        · have : d = n + 1 := by omega
          subst this
          rw [if_pos q, sumN_congr (h := fun x => if x < n then (1 : Int) else 0) (fun i hi => by rw [if_pos hi, if_pos (by omega)]), ih n (Nat.le_refl n)]
          omega
        · rw [if_neg q, ih d (by omega)]
          omega
    exact cnt n (d s) (by omega)
  · rw [if_neg a, sumN_congr (h := fun _ => (0 : Int)) (fun u _ => if_neg fun z => a z.1), sumN_zero]
theorem psd_sq (P : Pl n o h d) (n0 : 0 < n) (le : ∀ u, u < n → psd n o h d u ≤ n) : sumN n (fun u => psd n o h d u * psd n o h d u) ≤ sumN n fun s => if o s then (d s : Int) * d s else 0 := by
  have A : ∀ u, u < n → psd n o h d u * psd n o h d u + psd n o h d u ≤ 2 * sumN n (fun j => sumN n (ev n o h d u j)) := fun u hu => by
    have p0 := psd_nn (n := n) (o := o) (h := h) (d := d) u
    obtain ⟨x, hx⟩ : ∃ x : Nat, psd n o h d u = (x : Int) := ⟨(psd n o h d u).toNat, by omega⟩
    have t := tri_sum x n (by have := le u hu; omega)
    have b : sumN n (fun a => sumN n fun j => if a + j < x then (1 : Int) else 0) ≤ sumN n (fun j => sumN n (ev n o h d u j)) := sumN_le fun a ha => by
      have g := ev_ge P hu a
      have g0 := ev_nn (n := n) (o := o) (h := h) (d := d) u a
      have inn : ∀ (m : Nat), sumN m (fun j => if a + j < x then (1 : Int) else 0) ≤ ((x - a : Nat) : Int) := by
        intro m
        have : ∀ m y : Nat, sumN m (fun j => if j < y then (1 : Int) else 0) ≤ (y : Int) := by
          intro m
          induction m with
          | zero => intro y; simp [sumN]
          | succ m ih =>
            intro y
            rw [sumN_first]
            cases y with
            | zero => rw [sumN_congr (h := fun _ => (0 : Int)) (fun i _ => if_neg (by omega)), sumN_zero]; simp
            | succ y =>
              have z := ih y
              rw [sumN_congr (h := fun j => if j < y then (1 : Int) else 0) (fun i _ => by by_cases q : i < y; rw [if_pos q, if_pos (by omega)]; rw [if_neg q, if_neg (by omega)])]
              rw [if_pos (by omega)]
              omega
        have z := this m (x - a)
        rw [sumN_congr (h := fun j => if j < x - a then (1 : Int) else 0) (fun i _ => by by_cases q : a + i < x; rw [if_pos q, if_pos (by omega)]; rw [if_neg q, if_neg (by omega)])]
        exact z
      have i2 := inn n
      rw [hx] at g
      omega
    rw [hx]
    have : (x : Int) * x + x = (x : Int) * (x + 1) := by rw [Int.mul_add]; omega
    rw [this]
    omega
  have B : 2 * sumN n (fun u => sumN n (fun j => sumN n (ev n o h d u j))) = sumN n (fun s => if o s then (d s : Int) * (d s + 1) else 0) := by
    have e1 : sumN n (fun u => sumN n (fun j => sumN n (ev n o h d u j))) = sumN n (fun s => sumN n (fun u => sumN n (fun j => ev n o h d u j s))) := by
      rw [sumN_congr (h := fun u => sumN n (fun s => sumN n (fun j => ev n o h d u j s))) fun u _ => sumN_swap n n _]
      exact sumN_swap n n _
    rw [e1, ← sumN_mul]
    refine sumN_congr fun s hs => ?_
    unfold ev
    by_cases a : o s
    · rw [if_pos a]
      have f := P.far s hs a
      have hh := P.home s hs a
      have e : sumN n (fun u => sumN n fun j => if o s ∧ dist n (h s) u + j < d s then (1 : Int) else 0) = sumN n (fun u => (fun x => sumN n fun j => if x + j < d s then (1 : Int) else 0) (dist n (h s) u)) := sumN_congr fun u _ => sumN_congr fun j _ => by
        simp only [a, true_and]
      rw [e, sumN_dist (by omega) n0 fun x => sumN n fun j => if x + j < d s then (1 : Int) else 0]
      exact tri_sum (d s) n (by omega)
    · rw [if_neg a, sumN_congr (h := fun _ => (0 : Int)) (fun u _ => by rw [sumN_congr (h := fun _ => (0 : Int)) (fun j _ => if_neg fun z => a z.1), sumN_zero]), sumN_zero]
      rfl
  have C := psd_sum P n0
  have D : sumN n (fun u => psd n o h d u * psd n o h d u + psd n o h d u) ≤ sumN n (fun u => 2 * sumN n (fun j => sumN n (ev n o h d u j))) := sumN_le A
  rw [sumN_mul, B, sumN_add] at D
  have E : sumN n (fun s => if o s then (d s : Int) * (d s + 1) else 0) = sumN n (fun s => if o s then (d s : Int) * d s else 0) + sumN n fun s => if o s then (d s : Int) else 0 := by
    rw [← sumN_add]
    refine sumN_congr fun s _ => ?_
    by_cases a : o s
    · simp only [a, if_true]; rw [Int.mul_add]; omega
    · simp only [a, if_false]; rfl
  rw [E] at D
  have F : sumN n (psd n o h d) = sumN n (fun u => psd n o h d u) := rfl
  omega
end ML
namespace DL
open PySem PySem.Spec PyProof.Rows L2 LamX PySem.W SL
def hm (hs : List Nat) (k : Nat) : Nat := hs.getD k 0
def lineP (n : Nat) (hs : List Nat) : List (List Int) := hs.map fun h : Nat => lineI n (h : Int)
structure Lin (m n : Nat) (hs : List Nat) (P : List (List Int)) (R : List (List (List Int))) : Prop where
  s : Setg m n P R
  len : hs.length = m
  lt : ∀ h ∈ hs, h < n
  p : P = lineP n hs
  n0 : 0 < n
section
variable {m n : Nat} {hs : List Nat} {P : List (List Int)} {R : List (List (List Int))}
theorem Lin.hm_lt (S : Lin m n hs P R) {k : Nat} (hk : k < m) : hm hs k < n := S.lt _ (getD_memL (by rw [S.len]; exact hk))
theorem Lin.pr (S : Lin m n hs P R) {a i : Nat} (ha : a < m) (hi : i < n) : DL.pr P a i = (hm hs a + i) % n := by
  have e : P.getD a [] = lineI n ((hm hs a : Nat) : Int) := by
    rw [S.p]
    unfold lineP hm
    rw [List.getD_eq_getElem?_getD, List.getD_eq_getElem?_getD, List.getElem?_map, List.getElem?_eq_getElem (by rw [S.len]; exact ha)]
    rfl
  unfold DL.pr
  rw [e]
  unfold lineI
  rw [List.getD_eq_getElem?_getD, List.getElem?_map, List.getElem?_range hi]
  show ((((hm hs a : Nat) : Int) + ((i : Nat) : Int)) % (n : Int)).toNat = _
  rw [← Int.natCast_add, ← Int.natCast_emod]
  rfl
theorem Lin.rk (S : Lin m n hs P R) {a s : Nat} (ha : a < m) (hs' : s < n) : DL.rk P a s = ML.dist n (hm hs a) s := by
  have h1 := S.hm_lt ha
  have l := ML.dist_lt (n := n) (a := hm hs a) (i := s) S.n0
  have e := S.pr ha l
  have z := (ML.dist_eq (n := n) h1 hs' l).mp rfl
  rw [← z] at e
  have w := S.s.rk_pr ha l
  rw [e] at w
  exact w
def tm (n : Nat) (hs : List Nat) (sl : List Int) (u s : Nat) : Int := if 0 ≤ sl.getD s (-1) ∧ ML.dist n (hm hs (sl.getD s (-1)).toNat) u + 0 < ML.dist n (hm hs (sl.getD s (-1)).toNat) s then 1 else 0
def pa (n : Nat) (hs : List Nat) (sl : List Int) (u : Nat) : Int := ML.sumN n (tm n hs sl u)
def one (b : Bool) : Int := if b then 1 else 0
theorem At.getD {sl : List Int} {s k : Nat} (h : At sl s k) : sl.getD s (-1) = (k : Int) := by
  unfold At at h
  rw [List.getD_eq_getElem?_getD, h]
  rfl
theorem sumN_upd {x : Nat} {g g' : Nat → Int} : ∀ {n : Nat}, x < n → (∀ s, s < n → s ≠ x → g' s = g s) → ML.sumN n g' = ML.sumN n g - g x + g' x
  | 0, h, _ => absurd h (Nat.not_lt_zero _)
  | n + 1, h, e => by
    show ML.sumN n g' + g' n = ML.sumN n g + g n - g x + g' x
    by_cases q : x = n
    · subst q
      rw [ML.sumN_congr (h := g) fun i hi => e i (by omega) (by omega)]
      omega
    · rw [sumN_upd (n := n) (by omega) fun s hs => e s (by omega), e n (by omega) (fun z => q z.symm)]
      omega
structure FE (n : Nat) (sl : List Int) (x t : Nat) : Prop where
  lt : t < n
  tk : ∀ j, j < t → ∃ k, At sl ((x + j) % n) k
  free : sl[(x + t) % n]? = some (-1)
theorem FE.next {sl : List Int} {x t a : Nat} (F : FE n sl x (t + 1)) (hx : x < n) (l : sl.length = n) : FE n (sl.set x (a : Int)) ((x + 1) % n) t ∧ FE n sl ((x + 1) % n) t := by
  have lt := F.lt
  have e : ∀ j, ((x + 1) % n + j) % n = (x + (j + 1)) % n := fun j => by rw [Nat.mod_add_mod, show x + 1 + j = x + (j + 1) by omega]
  refine ⟨⟨by omega, fun j hj => ?_, ?_⟩, ⟨by omega, fun j hj => ?_, ?_⟩⟩
  · rw [e]
    obtain ⟨k, hk⟩ := F.tk (j + 1) (by omega)
    exact taken_set (by omega) hk
  · rw [e, List.getElem?_set_ne]
    · exact F.free
    · intro z
      by_cases q : x + (t + 1) < n
      · rw [Nat.mod_eq_of_lt q] at z
        omega
      · rw [show x + (t + 1) = (x + (t + 1) - n) + n by omega, Nat.add_mod_right, Nat.mod_eq_of_lt (by omega)] at z
        omega
  · rw [e]
    exact F.tk (j + 1) (by omega)
  · rw [e]
    exact F.free
end
end DL
namespace DL
open PySem PySem.Spec PyProof.Rows L2 LamX PySem.W SL
section
variable {m n : Nat} {hs : List Nat} {P : List (List Int)} {R : List (List (List Int))}
theorem flow_le {c : List Int} (hc : Cnt c) {u : Nat} (hu : u < c.length) : 0 ≤ (ML.flowsI c).getD u 0 ∧ (ML.flowsI c).getD u 0 ≤ c.length := by
  have f := hc.fl _ (getD_mem (l := ML.flowsI c) (i := u) (by rw [ML.flowsI_length]; exact hu))
  omega
theorem cy_flow {c : List Int} {u : Nat} (hu : u < c.length) : ML.cy (ML.flowsI c) u = (ML.flowsI c).getD u 0 := ML.cy_lt (by rw [ML.flowsI_length]; exact hu)
theorem sq_waits_flows {c : List Int} (hc : Cnt c) : sqSum (waitsI c) = ML.sumN c.length fun s => (ML.flowsI c).getD s 0 * (ML.flowsI c).getD s 0 := by
  rw [sqSum_waits]
  have z := ML.sq_flows hc.flow hc.pos (fun i => hc.nn _ (getD_mem (Nat.mod_lt _ hc.pos))) (ML.cy_per c)
  have y : (ML.sumN c.length fun s => ML.cy (ML.flowsI c) s * ML.cy (ML.flowsI c) s) = ML.sumN c.length fun s => (ML.flowsI c).getD s 0 * (ML.flowsI c).getD s 0 := ML.sumN_congr fun s hs' => by rw [cy_flow hs']
  rw [← y, ← z]
  exact ML.sumN_congr fun s hs' => by rw [ML.cy_lt hs']
theorem wait_flow {c : List Int} (hc : Cnt c) {w : Int} (hw : w ∈ waitsI c) : ∃ u, u < c.length ∧ w ≤ (ML.flowsI c).getD u 0 := by
  unfold waitsI at hw
  obtain ⟨s, hs, hw⟩ := List.mem_flatMap.mp hw
  obtain ⟨k, hk, rfl⟩ := List.mem_map.mp hw
  have ls := List.mem_range.mp hs
  have lk := List.mem_range.mp hk
  refine ⟨s, ls, ?_⟩
  have r := hc.flow.rec_ (s + (c.length - 1))
  have e : s + (c.length - 1) + 1 = s + c.length := by have := hc.pos; omega
  rw [e, hc.flow.per, ML.cy_per, cy_flow ls, ML.cy_lt ls] at r
  unfold ML.step at r
  split at r <;> omega
end
end DL
namespace DL
open PySem PySem.Spec PyProof.Rows L2 LamX PySem.W SL
def F_law_v9 (g__law_pot : DRs) (g__law_right : DRs) : DTS := (sRet (dCB dAll (daCons (dLcG (wRng1 (daCons (dCB dMax2 (daCons (dC (.int 1)) (daCons (dCB dMin2 (daCons (dC (.int 2)) (daCons (dCB dLen (daCons (dVar 0) daNil)) daNil))) daNil))) daNil)) (gNm 1) dtYes (dCB g__law_right (daCons (dCB g__law_pot (daCons (dVar 0) (daCons (dVar 1) daNil))) daNil)) [1] finT) daNil)))
end DL
namespace DL
open PySem PySem.Spec PyProof.Rows L2 LamX PySem.W SL
end DL
namespace DL
open PySem PySem.Spec PyProof.Rows L2 LamX PySem.W SL
def hL (hs : List Nat) : List D := hs.map fun h : Nat => D.int (h : Nat)
structure HLay (m n : Nat) (hs : List Nat) (sl : List Int) : Prop where
  len : hs.length = m
  lt : ∀ h ∈ hs, h < n
  lay : Lay m n sl
  n0 : 0 < n
  few : n ≤ 100
theorem HLay.hm_lt {m n : Nat} {hs : List Nat} {sl : List Int} (S : HLay m n hs sl) {k : Nat} (hk : k < m) : hm hs k < n := S.lt _ (getD_memL (by rw [S.len]; exact hk))
end DL
namespace DL
open PySem PySem.Spec PyProof.Rows L2 LamX PySem.W SL
section
variable {m n : Nat} {hs : List Nat} {P : List (List Int)} {R : List (List (List Int))}
end
end DL
namespace DL
open PySem PySem.Spec PyProof.Rows L2 LamX PySem.W SL
end DL
namespace DL
open PySem PySem.Spec PyProof.Rows L2 LamX PySem.W SL
end DL
namespace DL
open PySem PySem.Spec PyProof.Rows L2 LamX PySem.W SL
end DL
namespace DL
open PySem PySem.Spec PyProof.Rows L2 LamX PySem.W SL
section
variable {m n : Nat} {P : List (List Int)} {R : List (List (List Int))}
theorem oth_lay (S : Setg m n P R) {so : List Nat} (H : Hist m n so) (a x : Nat) : x ∈ oth (layF P R so) a ↔ x ∈ so ∧ x ≠ a := by
  rw [oth_mem (layF_good S H).1.lay, (layF_good S H).2]
theorem back (S : Setg m n P R) (T : Trn m n R) {so : List Nat} (H : Hist m n so) {a : Nat} (ha : a ∈ so) : Hist m n (oth (layF P R so) a ++ [a]) ∧ layF P R (oth (layF P R so) a ++ [a]) = layF P R so := by
  have L := (layF_good S H).1.lay
  have Ho := oth_hist L (a := a)
  have mem : ∀ x, x ∈ oth (layF P R so) a ++ [a] ↔ x ∈ so := fun x => by
    rw [List.mem_append, List.mem_singleton, oth_lay S H]
    constructor
    · rintro (z | rfl)
      · exact z.1
      · exact ha
    · intro z
      by_cases e : x = a
      · exact .inr e
      · exact .inl ⟨z, e⟩
  have nd : (oth (layF P R so) a ++ [a]).Nodup := by
    rw [List.nodup_append]
    refine ⟨Ho.nd, by simp, fun x hx y hy => ?_⟩
    rw [List.mem_singleton.mp hy]
    exact ((oth_lay S H a x).mp hx).2
  have pm : (oth (layF P R so) a ++ [a]).Perm so := (List.perm_ext_iff_of_nodup nd H.nd).mpr mem
  have H2 := H.ofPerm pm
  exact ⟨H2, layF_any S T H2 H mem⟩
end
end DL
namespace DL
open PySem PySem.Spec PyProof.Rows L2 LamX PySem.W SL
section
variable {m n : Nat} {P : List (List Int)} {R : List (List (List Int))}
end
end DL
namespace DL
open PySem PySem.Spec PyProof.Rows L2 LamX PySem.W SL
section
variable {m n : Nat} {P : List (List Int)} {R : List (List (List Int))}
theorem sem_law83 (ds : List D) (st : DSt) (Q : DK) (h : g_law ds st Q) : F_law_v7 g_pot g_right { nx := fun _ st' => Rt st Q .non st', rt := Rt st Q } (startD 2 ds) st := by
  obtain ⟨ns, x, rfl, hx, few, q⟩ := h
  have st2 : startD 2 [x] = [some x, none] := rfl
  have big : (1000 : Nat) ≤ sizeLine := by decide
  simp only [F_law_v7, st2, e_var, e_C, e_op, e_neg, e_isN, e_notN, e_and, e_or, e_not, e_test, e_tAnd, e_tOr, e_tNot, e_tYes, e_if, e_aNil, e_aCons, e_tup, e_lst, e_lstN, e_len0, e_len1, e_len2, e_len3, e_len4, e_len5, e_cb, e_on1, e_on2, e_onI, e_onB, e_onO, e_onO0, e_onOO, e_I0, e_I, e_add, e_addT, e_addS, e_addL, e_addLR, e_addRL, e_addRR, e_mul, e_mulL, e_mulT, e_rev, e_revT, e_ix, e_eqI, e_eqS, e_eqB, e_neI, e_neS, e_neB, e_ltI, e_chain, e_len, e_abs, e_2I, e_tuple1, e_tuple2, e_tuple3, e_listT, e_listN, e_allR, e_seqT, e_seqK, e_seqL, e_isi, e_isB, e_notB, e_truth, e_next, e_seq, e_drop, e_ret, e_retN, e_ifS, e_set, e_asg, e_par, e_nm, e_gsN, e_gsC, e_gTpK, e_gTpL, e_sum, e_maxL, e_minL, e_maxDef, e_int, e_intB, e_aug, e_on3, e_par3, e_newK, e_getK, e_keyI, e_keyS, e_inK, e_ninK, e_putK, e_lenK, e_lstS, e_seqX, e_gTpT, e_oN, e_oS, e_sl, e_slT, e_slL, e_finT, e_finN, e_index, e_idxT, e_idxL, e_mIx, e_ixST, e_ixSL, e_mtL, e_w, e_w1, e_w2, e_wE, e_wZ, e_itK, e_itT, e_itL, e_itT2, e_itL2, e_lc, e_for, e_wipe0, e_wipe, e_okI, e_okR, e_gSb, List.getElem?_cons_zero, List.getElem?_cons_succ, List.set_cons_zero, List.set_cons_succ, hx.seq, List.length_map]
  generalize hj : (if (if (ns.length : Int) < 2 then (ns.length : Int) else 2) > 1 then (if (ns.length : Int) < 2 then (ns.length : Int) else 2) else 1) = j
  have j3 : 1 ≤ j ∧ j ≤ 2 := by
    rw [← hj]
    split <;> (try split) <;> omega
  refine ⟨⟨by omega, by omega⟩, by rw [rgD_length]; omega, ?_⟩
  refine compL_true _ [] st (fun d hd st1 Q' q' => ?_) fun st' => ?_
  · obtain ⟨k, lk, rfl⟩ := rgD_mem hd
    simp only [e_var, e_C, e_op, e_neg, e_isN, e_notN, e_and, e_or, e_not, e_test, e_tAnd, e_tOr, e_tNot, e_tYes, e_if, e_aNil, e_aCons, e_tup, e_lst, e_lstN, e_len0, e_len1, e_len2, e_len3, e_len4, e_len5, e_cb, e_on1, e_on2, e_onI, e_onB, e_onO, e_onO0, e_onOO, e_I0, e_I, e_add, e_addT, e_addS, e_addL, e_addLR, e_addRL, e_addRR, e_mul, e_mulL, e_mulT, e_rev, e_revT, e_ix, e_eqI, e_eqS, e_eqB, e_neI, e_neS, e_neB, e_ltI, e_chain, e_len, e_abs, e_2I, e_tuple1, e_tuple2, e_tuple3, e_listT, e_listN, e_allR, e_seqT, e_seqK, e_seqL, e_isi, e_isB, e_notB, e_truth, e_next, e_seq, e_drop, e_ret, e_retN, e_ifS, e_set, e_asg, e_par, e_nm, e_gsN, e_gsC, e_gTpK, e_gTpL, e_sum, e_maxL, e_minL, e_maxDef, e_int, e_intB, e_aug, e_on3, e_par3, e_newK, e_getK, e_keyI, e_keyS, e_inK, e_ninK, e_putK, e_lenK, e_lstS, e_seqX, e_gTpT, e_oN, e_oS, e_sl, e_slT, e_slL, e_finT, e_finN, e_index, e_idxT, e_idxL, e_mIx, e_ixST, e_ixSL, e_mtL, e_w, e_w1, e_w2, e_wE, e_wZ, e_itK, e_itT, e_itL, e_itT2, e_itL2, e_lc, e_for, e_wipe0, e_wipe, e_okI, e_okR, e_gSb, List.getElem?_cons_zero, List.getElem?_cons_succ, List.set_cons_zero, List.set_cons_succ]
    refine ⟨ns, x, k, by rw [Int.zero_add], hx, by omega, fun o po => ⟨st1.length, rfl, ⟨o, by simp, po.less (by decide)⟩, fun o2 _ => q' _⟩⟩
  · rw [List.nil_append]
    exact all_end0 (fun d hd => List.eq_of_mem_replicate hd) (.inl (q _))
end
end DL
namespace DL
open PySem PySem.Spec PyProof.Rows L2 LamX PySem.W SL
def g_tabOfL : DRs := fun ds st Q => ∃ (n : Nat) (ns : List Int), ds = [.lst (ns.map D.int)] ∧ Ord n ns ∧ n ≤ 60 ∧ Q (rowsD (ordT ns)) st
theorem ar_tabOfL (ds : List D) (st : DSt) (Q : DK) (h : g_tabOfL ds st Q) : ds.length = 1 := by
  obtain ⟨_, _, rfl, _⟩ := h
  rfl
theorem sem_tabOfL (ds : List D) (st : DSt) (Q : DK) (h : g_tabOfL ds st Q) : F__law_ordered_table { nx := fun _ st' => Rt st Q .non st', rt := Rt st Q } (startD 2 ds) st := by
  obtain ⟨n, ns, rfl, o, n60, q⟩ := h
  have st2 : startD 2 [D.lst (ns.map D.int)] = [some (.lst (ns.map D.int)), none] := rfl
  have big : (1000 : Nat) ≤ sizeLine := by decide
  have ln := o.len
  simp only [F__law_ordered_table, st2, e_var, e_C, e_op, e_neg, e_isN, e_notN, e_and, e_or, e_not, e_test, e_tAnd, e_tOr, e_tNot, e_tYes, e_if, e_aNil, e_aCons, e_tup, e_lst, e_lstN, e_len0, e_len1, e_len2, e_len3, e_len4, e_len5, e_cb, e_on1, e_on2, e_onI, e_onB, e_onO, e_onO0, e_onOO, e_I0, e_I, e_add, e_addT, e_addS, e_addL, e_addLR, e_addRL, e_addRR, e_mul, e_mulL, e_mulT, e_rev, e_revT, e_ix, e_eqI, e_eqS, e_eqB, e_neI, e_neS, e_neB, e_ltI, e_chain, e_len, e_abs, e_2I, e_tuple1, e_tuple2, e_tuple3, e_listT, e_listN, e_allR, e_seqT, e_seqK, e_seqL, e_isi, e_isB, e_notB, e_truth, e_next, e_seq, e_drop, e_ret, e_retN, e_ifS, e_set, e_asg, e_par, e_nm, e_gsN, e_gsC, e_gTpK, e_gTpL, e_sum, e_maxL, e_minL, e_maxDef, e_int, e_intB, e_aug, e_on3, e_par3, e_newK, e_getK, e_keyI, e_keyS, e_inK, e_ninK, e_putK, e_lenK, e_lstS, e_seqX, e_gTpT, e_oN, e_oS, e_sl, e_slT, e_slL, e_finT, e_finN, e_index, e_idxT, e_idxL, e_mIx, e_ixST, e_ixSL, e_mtL, e_w, e_w1, e_w2, e_wE, e_wZ, e_itK, e_itT, e_itL, e_itT2, e_itL2, e_lc, e_for, e_wipe0, e_wipe, e_okI, e_okR, e_gSb, List.getElem?_cons_zero, List.getElem?_cons_succ, List.set_cons_zero, List.set_cons_succ, List.length_map, rgD_length, Int.toNat_natCast]
  refine ⟨⟨by omega, by omega⟩, by omega, lc_rng (fun k => rowD (sortI (ns.drop (pos ns (k : Int) + 1)))) (fun k lt Q' q' => ?_) ?_⟩
  · have mk : (k : Int) ∈ ns := o.mem.mpr (by omega)
    simp only [e_var, e_C, e_op, e_neg, e_isN, e_notN, e_and, e_or, e_not, e_test, e_tAnd, e_tOr, e_tNot, e_tYes, e_if, e_aNil, e_aCons, e_tup, e_lst, e_lstN, e_len0, e_len1, e_len2, e_len3, e_len4, e_len5, e_cb, e_on1, e_on2, e_onI, e_onB, e_onO, e_onO0, e_onOO, e_I0, e_I, e_add, e_addT, e_addS, e_addL, e_addLR, e_addRL, e_addRR, e_mul, e_mulL, e_mulT, e_rev, e_revT, e_ix, e_eqI, e_eqS, e_eqB, e_neI, e_neS, e_neB, e_ltI, e_chain, e_len, e_abs, e_2I, e_tuple1, e_tuple2, e_tuple3, e_listT, e_listN, e_allR, e_seqT, e_seqK, e_seqL, e_isi, e_isB, e_notB, e_truth, e_next, e_seq, e_drop, e_ret, e_retN, e_ifS, e_set, e_asg, e_par, e_nm, e_gsN, e_gsC, e_gTpK, e_gTpL, e_sum, e_maxL, e_minL, e_maxDef, e_int, e_intB, e_aug, e_on3, e_par3, e_newK, e_getK, e_keyI, e_keyS, e_inK, e_ninK, e_putK, e_lenK, e_lstS, e_seqX, e_gTpT, e_oN, e_oS, e_sl, e_slT, e_slL, e_finT, e_finN, e_index, e_idxT, e_idxL, e_mIx, e_ixST, e_ixSL, e_mtL, e_w, e_w1, e_w2, e_wE, e_wZ, e_itK, e_itT, e_itL, e_itT2, e_itL2, e_lc, e_for, e_wipe0, e_wipe, e_okI, e_okR, e_gSb, List.getElem?_cons_zero, List.getElem?_cons_succ, List.set_cons_zero, List.set_cons_succ, intsD_ints, (pos_at mk).2, true_and]
    have e : ((pos ns (k : Int) : Nat) : Int) + 1 = ((pos ns (k : Int) + 1 : Nat) : Int) := by omega
    rw [e, cutN, ← List.map_drop]
    refine sort_ev rfl (by rw [List.length_drop]; omega) ?_
    exact q'
  · refine tuple_end (.inl ?_)
    have e : (List.range ns.length).map (fun k : Nat => rowD (sortI (ns.drop (pos ns (k : Int) + 1)))) = (ordT ns).map rowD := by unfold ordT; rw [List.map_map]; rfl
    rw [e]
    exact q
end DL
namespace DL
open PySem PySem.Spec PyProof.Rows L2 LamX PySem.W SL
end DL
namespace DL
open PySem PySem.Spec PyProof.Rows L2 LamX PySem.W SL
end DL
namespace DL
open PySem PySem.Spec PyProof.Rows L2 LamX PySem.W SL
structure Tops (m : Nat) (t : List (List Int)) (fd lf : List Nat) : Prop where
  pm : (fd ++ lf).Perm (List.range m)
  pw : fd.Pairwise (Beats t)
  all : ∀ x ∈ fd, ∀ y ∈ lf, Beats t x y
section
variable {m : Nat} {t : List (List Int)} {fd lf : List Nat}
theorem Tb.irr2 (tb : Tb m t) {a : Nat} (ha : a < m) : ¬ Beats t a a := fun z => by
  have o := tb.one a a ha ha
  unfold dec at o
  have z' : (a : Int) ∈ t.getD a [] := z
  rw [if_pos rfl, decide_eq_true z'] at o
  cases o
theorem Tops.nd (T : Tops m t fd lf) : (fd ++ lf).Nodup := T.pm.nodup_iff.mpr List.nodup_range
theorem Tops.lt (T : Tops m t fd lf) {x : Nat} (h : x ∈ fd ∨ x ∈ lf) : x < m := List.mem_range.mp (T.pm.mem_iff.mp (List.mem_append.mpr h))
theorem Tops.step (T : Tops m t fd lf) (tb : Tb m t) {x j : Nat} (hx : lf[j]? = some x) (top : ∀ y ∈ lf, ¬ Beats t y x) : Tops m t (fd ++ [x]) (lf.eraseIdx j) := by
  have lt := (List.getElem?_eq_some_iff.mp hx).1
  have ex := (List.getElem?_eq_some_iff.mp hx).2
  have xm : x ∈ lf := List.mem_of_getElem? hx
  have pe := erase_perm lf j lt
  rw [ex] at pe
  have nd := T.nd
  rw [List.nodup_append] at nd
  have ne : ∀ y ∈ lf.eraseIdx j, y ≠ x := fun y hy e => by
    have n2 := pe.nodup_iff.mpr nd.2.1
    rw [List.nodup_append] at n2
    exact n2.2.2 y hy x (by simp) e
  have sub : ∀ y ∈ lf.eraseIdx j, y ∈ lf := fun y hy => pe.mem_iff.mp (List.mem_append_left _ hy)
  refine ⟨?_, ?_, fun z hz y hy => ?_⟩
  · refine List.Perm.trans ?_ T.pm
    rw [List.append_assoc]
    exact List.Perm.append_left fd (List.perm_append_comm.trans pe)
  · rw [List.pairwise_append]
    refine ⟨T.pw, List.pairwise_singleton _ _, fun a ha b hb => ?_⟩
    rw [List.mem_singleton.mp hb]
    exact T.all a ha x xm
  · rcases List.mem_append.mp hz with w | w
    · exact T.all z w y (sub y hy)
    · rw [List.mem_singleton.mp w]
      exact (tb.dec2 (T.lt (.inr xm)) (T.lt (.inr (sub y hy))) (fun e => ne y hy e.symm)).mpr (top y (sub y hy))
theorem exists_min (f : Nat → Nat) : ∀ {l : List Nat}, l ≠ [] → ∃ x ∈ l, ∀ y ∈ l, f x ≤ f y
  | [x], _ => ⟨x, by simp, fun y hy => by rw [List.mem_singleton.mp hy]; exact Nat.le_refl _⟩
  | x :: z :: r, _ => by
    obtain ⟨w, hw, h⟩ := exists_min f (l := z :: r) (by simp)
    by_cases c : f x ≤ f w
    · refine ⟨x, by simp, fun y hy => ?_⟩
      rcases List.mem_cons.mp hy with e | e
      · rw [e]; exact Nat.le_refl _
      · exact Nat.le_trans c (h y e)
    · refine ⟨w, List.mem_cons_of_mem _ hw, fun y hy => ?_⟩
      rcases List.mem_cons.mp hy with e | e
      · rw [e]; omega
      · exact h y e
theorem Tops.top (T : Tops m t fd lf) (tb : Tb m t) (no : noRing t = true) (ne : lf ≠ []) : ∃ x ∈ lf, ∀ y ∈ lf, ¬ Beats t y x := by
  obtain ⟨x, hx, h⟩ := exists_min (fun k => pos (ordOf t) (k : Int)) ne
  refine ⟨x, hx, fun y hy b => ?_⟩
  have lx := T.lt (.inr hx)
  have ly := T.lt (.inr hy)
  by_cases e : y = x
  · subst e
    exact tb.irr2 ly b
  · have := (ordOf_pos tb no ly lx e).mpr b
    have := h y hy
    omega
theorem Tops.done (T : Tops m t fd []) (tb : Tb m t) : noRing t = true ∧ hI fd = ordOf t := by
  have pm := T.pm
  rw [List.append_nil] at pm
  have lt : ∀ x, x ∈ fd ↔ x < m := fun x => by rw [pm.mem_iff, List.mem_range]
  have bt' : ∀ (i j : Nat) (a b : Nat), fd[i]? = some a → fd[j]? = some b → i < j → Beats t a b := fun i j a b hi hj l => by
    obtain ⟨l1, e1⟩ := List.getElem?_eq_some_iff.mp hi
    obtain ⟨l2, e2⟩ := List.getElem?_eq_some_iff.mp hj
    have := List.pairwise_iff_getElem.mp T.pw i j l1 l2 l
    rw [e1, e2] at this
    exact this
  have ix : ∀ a b, a < m → b < m → Beats t a b → ∀ i j, fd[i]? = some a → fd[j]? = some b → i < j := fun a b ha hb h i j hi hj => by
    rcases Nat.lt_trichotomy i j with l | l | l
    · exact l
    · subst l
      rw [hi] at hj
      have e := Option.some.inj hj
      subst e
      exact absurd h (tb.irr2 ha)
    · have h2 := bt' j i b a hj hi l
      have ne : a ≠ b := fun e => by subst e; exact tb.irr2 ha h
      exact absurd h2 ((tb.dec2 ha hb ne).mp h)
  have no : noRing t = true := noRing_iff.mpr fun a b c rg => by
    obtain ⟨a0, a1, hb, hc, ha⟩ := rg
    have tl := tb.len
    have rb := tb.mem (x := a) a0 (by omega) hb
    have rc := tb.mem (x := b) rb.1 rb.2 hc
    obtain ⟨a', rfl⟩ : ∃ k : Nat, a = (k : Int) := ⟨a.toNat, by omega⟩
    obtain ⟨b', rfl⟩ : ∃ k : Nat, b = (k : Int) := ⟨b.toNat, by omega⟩
    obtain ⟨c', rfl⟩ : ∃ k : Nat, c = (k : Int) := ⟨c.toNat, by omega⟩
    have la : a' < m := by omega
    have lb : b' < m := by omega
    have lc : c' < m := by omega
    obtain ⟨i, hi⟩ := List.mem_iff_getElem?.mp ((lt a').mpr la)
    obtain ⟨j, hj⟩ := List.mem_iff_getElem?.mp ((lt b').mpr lb)
    obtain ⟨k, hk⟩ := List.mem_iff_getElem?.mp ((lt c').mpr lc)
    have x1 := ix a' b' la lb hb i j hi hj
    have x2 := ix b' c' lb lc hc j k hj hk
    have x3 := ix c' a' lc la ha k i hk hi
    omega
  refine ⟨no, ?_⟩
  have o1 : Ord m (hI fd) := ⟨by
    have := pm.map (fun k : Nat => (k : Int))
    exact this⟩
  refine ord_one o1 (ordOf_ord tb.len) fun a b ha hb l => ?_
  have pa := (pos_at (ns := hI fd) (x := (a : Int)) (o1.mem.mpr (by omega))).1
  have pb := (pos_at (ns := hI fd) (x := (b : Int)) (o1.mem.mpr (by omega))).1
  have g : ∀ {i c : Nat}, (hI fd)[i]? = some (c : Int) → fd[i]? = some c := fun {i c} h => by
    unfold hI at h
    rw [List.getElem?_map] at h
    obtain ⟨y, hy, e⟩ := Option.map_eq_some_iff.mp h
    rw [hy]
    congr 1
    omega
  have bb := bt' _ _ a b (g pa) (g pb) l
  have ne : a ≠ b := fun e => by subst e; exact tb.irr2 ha bb
  exact (ordOf_pos tb no ha hb ne).mpr bb
end
end DL
namespace DL
open PySem PySem.Spec PyProof.Rows L2 LamX PySem.W SL
abbrev UT (m : Nat) (rs : List (List Int)) : Prop := HalfR m (fun x y => x ≠ y) rs
theorem UT.of {m : Nat} {t : List (List Int)} (tb : Tb m t) : UT m t := by
  refine ⟨tb.len, fun x hx => (tb.asc x hx).imp fun h => by omega, fun x hx z hz => ?_, fun x y hx hy ne => ?_⟩
  · have r := tb.inr x hx z hz
    refine ⟨z.toNat, by omega, by omega, .inl fun e => ?_⟩
    have d := tb.one x x hx hx
    unfold dec at d
    rw [if_pos rfl, Bool.not_eq_true', decide_eq_false_iff_not] at d
    have ez : z = (x : Int) := by omega
    rw [ez] at hz
    exact d hz
  · have d := tb.one x y hx hy
    unfold dec at d
    rw [if_neg ne] at d
    by_cases a : (y : Int) ∈ t.getD x []
    · rw [decide_eq_true a] at d
      refine ⟨fun _ b => ?_, fun _ => a⟩
      rw [decide_eq_true b] at d
      cases d
    · rw [decide_eq_false a] at d
      refine ⟨fun b => absurd b a, fun b => ?_⟩
      rw [decide_eq_false b] at d
      cases d
theorem getD_set {rs : List (List Int)} {u a : Nat} {r : List Int} (hu : u < rs.length) : (rs.set u r).getD a [] = if a = u then r else rs.getD a [] := by
  rw [List.getD_eq_getElem?_getD, List.getElem?_set, List.getD_eq_getElem?_getD]
  by_cases e : u = a
  · rw [if_pos e, if_pos e.symm, if_pos hu]
    rfl
  · rw [if_neg e, if_neg (fun z => e z.symm)]
theorem erase_at {ns : List Int} (nd : ns.Nodup) {x : Int} {j : Nat} (hj : ixOf x ns = some j) : (ns.eraseIdx j).Nodup ∧ ∀ z, z ∈ ns.eraseIdx j ↔ z ∈ ns ∧ z ≠ x := by
  have e := (ixOf_spec hj).1
  have lt := (List.getElem?_eq_some_iff.mp e).1
  have ex := (List.getElem?_eq_some_iff.mp e).2
  have pe := erase_perm ns j lt
  rw [ex] at pe
  have nd2 := pe.nodup_iff.mpr nd
  rw [List.nodup_append] at nd2
  refine ⟨nd2.1, fun z => ?_⟩
  rw [← pe.mem_iff, List.mem_append, List.mem_singleton]
  constructor
  · exact fun h => ⟨.inl h, fun q => nd2.2.2 z h x (by simp) q⟩
  · rintro ⟨h | h, q⟩
    · exact h
    · exact absurd h q
theorem UT.turn {m : Nat} {rs : List (List Int)} (h : UT m rs) {x y j : Nat} (hx : x < m) (hy : y < m) (ne : x ≠ y) (no : ¬ (y : Int) ∈ rs.getD x []) (hj : ixOf (x : Int) (rs.getD y []) = some j) :
    UT m ((rs.set x (rs.getD x [] ++ [(y : Int)])).set y ((rs.getD y []).eraseIdx j)) ∧ (y : Int) ∈ ((rs.set x (rs.getD x [] ++ [(y : Int)])).set y ((rs.getD y []).eraseIdx j)).getD x [] ∧ ∀ a b : Nat, (b : Int) ∈ rs.getD a [] → ¬ (a = y ∧ b = x) → (b : Int) ∈ ((rs.set x (rs.getD x [] ++ [(y : Int)])).set y ((rs.getD y []).eraseIdx j)).getD a [] := by
  obtain ⟨nde, mem⟩ := erase_at (h.nd y hy) hj
  have row : ∀ a, ((rs.set x (rs.getD x [] ++ [(y : Int)])).set y ((rs.getD y []).eraseIdx j)).getD a [] = if a = y then (rs.getD y []).eraseIdx j else if a = x then rs.getD x [] ++ [(y : Int)] else rs.getD a [] := fun a => by
    rw [getD_set (by rw [List.length_set, h.len]; exact hy), getD_set (by rw [h.len]; exact hx)]
  have mm : ∀ a z, z ∈ ((rs.set x (rs.getD x [] ++ [(y : Int)])).set y ((rs.getD y []).eraseIdx j)).getD a [] ↔ (z ∈ rs.getD a [] ∧ ¬ (a = y ∧ z = (x : Int))) ∨ (a = x ∧ z = (y : Int)) := fun a z => by
    rw [row]
    by_cases ay : a = y
    · subst ay
      rw [if_pos rfl, mem]
      constructor
      · exact fun ⟨q, w⟩ => .inl ⟨q, fun v => w v.2⟩
      · rintro (⟨q, w⟩ | ⟨q, _⟩)
        · exact ⟨q, fun v => w ⟨rfl, v⟩⟩
        · exact absurd q.symm ne
    · rw [if_neg ay]
      by_cases ax : a = x
      · subst ax
        rw [if_pos rfl, List.mem_append, List.mem_singleton]
        constructor
        · rintro (q | q)
          · exact .inl ⟨q, fun v => ay v.1⟩
          · exact .inr ⟨rfl, q⟩
        · rintro (⟨q, _⟩ | ⟨_, q⟩)
          · exact .inl q
          · exact .inr q
      · rw [if_neg ax]
        constructor
        · exact fun q => .inl ⟨q, fun v => ay v.1⟩
        · rintro (⟨q, _⟩ | ⟨q, _⟩)
          · exact q
          · exact absurd q ax
  refine ⟨⟨by rw [List.length_set, List.length_set, h.len], fun a ha => ?_, fun a ha z hz => ?_, fun a b ha hb nab => ?_⟩, (mm x _).mpr (.inr ⟨rfl, rfl⟩), fun a b q w => (mm a _).mpr (.inl ⟨q, fun v => w ⟨v.1, by omega⟩⟩)⟩
  · rw [row]
    by_cases ay : a = y
    · rw [if_pos ay]
      exact nde
    · rw [if_neg ay]
      by_cases ax : a = x
      · rw [if_pos ax, List.nodup_append]
        refine ⟨h.nd x hx, by simp, fun u hu v hv e => ?_⟩
        rw [List.mem_singleton.mp hv] at e
        rw [e] at hu
        exact no hu
      · rw [if_neg ax]
        exact h.nd a ha
  · rcases (mm a z).mp hz with ⟨q, _⟩ | ⟨q, w⟩
    · exact h.inr a ha z q
    · exact ⟨y, hy, w, .inl (by show a ≠ y; omega)⟩
  · have o := h.one a b ha hb nab
    have oxy := h.one x y hx hy ne
    rw [mm, mm]
    constructor
    · rintro (⟨q, w⟩ | ⟨q, w⟩)
      · rintro (⟨q2, w2⟩ | ⟨q2, w2⟩)
        · exact (o.mp q) q2
        · exact w ⟨by omega, by omega⟩
      · rintro (⟨q2, w2⟩ | ⟨q2, w2⟩)
        · exact w2 ⟨by omega, by omega⟩
        · omega
    · intro q
      by_cases s : a = x ∧ b = y
      · exact .inr ⟨s.1, by omega⟩
      · refine .inl ⟨?_, fun w => ?_⟩
        · apply Classical.byContradiction
          intro c
          have c2 : (a : Int) ∈ rs.getD b [] := Classical.byContradiction fun z => c (o.mpr z)
          exact q (.inl ⟨c2, fun w => s ⟨by omega, w.1⟩⟩)
        · exact q (.inr ⟨by omega, by omega⟩)
def prs : List (Nat × Nat) := [(0, 1), (1, 2), (2, 0)]
def Turned (left : List (Nat × Nat)) (rs : List (List Int)) : Prop := ∃ dn, dn ++ left = prs ∧ ∀ q ∈ dn, ((q.2 : Nat) : Int) ∈ rs.getD q.1 []
theorem Turned.keep {x y : Nat} {left : List (Nat × Nat)} {rs : List (List Int)} (t : Turned ((x, y) :: left) rs) (h : (y : Int) ∈ rs.getD x []) : Turned left rs := by
  obtain ⟨dn, e, all⟩ := t
  refine ⟨dn ++ [(x, y)], by rw [List.append_assoc]; exact e, fun q hq => ?_⟩
  rcases List.mem_append.mp hq with z | z
  · exact all q z
  · rw [List.mem_singleton.mp z]
    exact h
theorem Turned.step {x y : Nat} {left : List (Nat × Nat)} {rs rs2 : List (List Int)} (t : Turned ((x, y) :: left) rs) (h : (y : Int) ∈ rs2.getD x []) (k : ∀ a b : Nat, (b : Int) ∈ rs.getD a [] → ¬ (a = y ∧ b = x) → (b : Int) ∈ rs2.getD a []) : Turned left rs2 := by
  obtain ⟨dn, e, all⟩ := t
  refine ⟨dn ++ [(x, y)], by rw [List.append_assoc]; exact e, fun q hq => ?_⟩
  rcases List.mem_append.mp hq with z | z
  · refine k _ _ (all q z) fun w => ?_
    have m1 : (x, y) ∈ prs := by rw [← e]; simp
    have m2 : q ∈ prs := by rw [← e]; exact List.mem_append_left _ z
    have : q = (y, x) := Prod.ext w.1 w.2
    subst this
    simp only [prs, List.mem_cons, List.not_mem_nil, or_false, Prod.mk.injEq] at m1 m2
    omega
  · rw [List.mem_singleton.mp z]
    exact h
theorem Turned.pair {x y : Nat} {left : List (Nat × Nat)} {rs : List (List Int)} (t : Turned ((x, y) :: left) rs) : x < 3 ∧ y < 3 ∧ x ≠ y := by
  obtain ⟨dn, e, _⟩ := t
  have m1 : (x, y) ∈ prs := by rw [← e]; simp
  simp only [prs, List.mem_cons, List.not_mem_nil, or_false, Prod.mk.injEq] at m1
  omega
end DL
namespace DL
open PySem PySem.Spec PyProof.Rows L2 LamX PySem.W SL
end DL
namespace DL
open PySem PySem.Spec PyProof.Rows L2 LamX PySem.W SL
end DL
namespace DL
open PySem PySem.Spec PyProof.Rows L2 LamX PySem.W SL
def F_look_up (g_require_ordered : DRs) : DTS := (sSeq (sDrop (dCB g_require_ordered (daCons (dVar 1) daNil))) (sSeq (sFor (wEnumK 1 (daCons (dOp dIx (dVar 0) (dVar 3)) daNil)) (gTp 2 (gsCons (gNm 4) (gsCons (gNm 5) gsNil))) (sSeq (sIf (dTest (dOp dEq (dOp dIx (dVar 2) (dVar 5)) (dVar 3))) (sRet (dTup (daCons (dVar 5) (daCons (dVar 4) daNil)))) sNext) (sIf (dtOr (dTest (dOp dEq (dOp dIx (dVar 2) (dVar 5)) (dC (.int (-1))))) (dTest (dOp dIn (dOp dIx (dVar 2) (dVar 5)) (dOp dIx (dOp dIx (dVar 1) (dVar 5)) (dVar 3))))) (sRet (dTup (daCons (dC (.int (-1))) (daCons (dVar 4) daNil)))) sNext))) (sRet (dTup (daCons (dC (.int (-1))) (daCons (dCB dLen (daCons (dVar 2) daNil)) daNil))))))
end DL
namespace DL
open PySem PySem.Spec PyProof.Rows L2 LamX PySem.W SL
section
variable {m n : Nat} {P : List (List Int)} {R : List (List (List Int))} {sl : List Int}
def seekF (P : List (List Int)) (R : List (List (List Int))) (sl : List Int) (n a : Nat) : Nat → Nat → Int × Nat
  | 0, _ => (-1, n)
  | f + 1, i => if sl.getD (pr P a i) 0 = (a : Int) then ((pr P a i : Nat), i + 1) else if sl.getD (pr P a i) 0 = -1 ∨ sl.getD (pr P a i) 0 ∈ (R.getD (pr P a i) []).getD a [] then (-1, i + 1) else seekF P R sl n a f (i + 1)
theorem seek_no {a : Nat} (no : (a : Int) ∉ sl) (l : sl.length = n) (S : Setg m n P R) (ha : a < m) : ∀ f i, i + f = n → (seekF P R sl n a f i).1 = -1 ∧ (seekF P R sl n a f i).2 ≤ n
  | 0, i, _ => ⟨rfl, Nat.le_refl _⟩
  | f + 1, i, e => by
    have hp := (S.pr_at ha (i := i) (by omega)).2
    have ne : ¬ sl.getD (pr P a i) 0 = (a : Int) := fun z => no (by
      rw [← z, List.getD_eq_getElem?_getD, List.getElem?_eq_getElem (by omega)]
      exact List.getElem_mem _)
    unfold seekF
    rw [if_neg ne]
    split
    · exact ⟨rfl, by show i + 1 ≤ n; omega⟩
    · exact seek_no no l S ha f (i + 1) (by omega)
theorem seek_yes {a : Nat} (S : Setg m n P R) (ha : a < m) (g : Good m n P sl) (st : Stb P R sl) {s : Nat} (h : At sl s a) : ∀ f i, i + f = n → i ≤ rk P a s → seekF P R sl n a f i = ((s : Int), rk P a s + 1)
  | 0, i, e, le => by
    have := (S.rk_at ha (g.lay.key h).2).2.1
    omega
  | f + 1, i, e, le => by
    have hs := (g.lay.key h).2
    unfold seekF
    by_cases c : i = rk P a s
    · subst c
      rw [S.pr_rk ha hs]
      have e2 : sl.getD s 0 = (a : Int) := by unfold At at h; rw [List.getD_eq_getElem?_getD, h]; rfl
      rw [if_pos e2]
    · have il : i < rk P a s := by omega
      obtain ⟨k', hk'⟩ := g.ah s a h i il
      have b := st s a h i il k' hk'
      have e2 : sl.getD (pr P a i) 0 = (k' : Int) := by unfold At at hk'; rw [List.getD_eq_getElem?_getD, hk']; rfl
      have kk := g.lay.key hk'
      have nk : k' ≠ a := fun z => by
        subst z
        have := g.lay.inj _ _ _ hk' h
        have q := S.rk_pr (i := i) ha (by omega)
        rw [this] at q
        omega
      rw [e2, if_neg (by omega), if_neg, seek_yes S ha g st h f (i + 1) (by omega) (by omega)]
      rintro (z | z)
      · omega
      · have w : bt R (pr P a i) a k' = true := by unfold bt; exact decide_eq_true z
        have v := S.bt_not kk.2 kk.1 ha nk
        rw [b, w] at v
        cases v
end
theorem enumK_drop {k : Nat} {xs : List Int} {i : Nat} {d : D} {ds : List D} (h : d :: ds = (enumDK k (xs.map D.int)).drop i) : i < xs.length ∧ d = .tuk [.int ((i + k : Nat) : Int), .int (xs.getD i 0)] ∧ ds = (enumDK k (xs.map D.int)).drop (i + 1) := by
  obtain ⟨e, lt, e2⟩ := drop_cons h.symm
  obtain ⟨x, ex, rfl⟩ := enumDK_get e
  rw [List.getElem?_map] at ex
  obtain ⟨y, ey, rfl⟩ := Option.map_eq_some_iff.mp ex
  refine ⟨(List.getElem?_eq_some_iff.mp ey).1, ?_, e2.symm⟩
  rw [List.getD_eq_getElem?_getD, ey]
  rfl
theorem enumK_end {k : Nat} {xs : List Int} {i : Nat} (h : [] = (enumDK k (xs.map D.int)).drop i) : xs.length ≤ i := by
  have := List.drop_eq_nil_iff.mp h.symm
  rw [enumDK_length, List.length_map] at this
  exact this
def foundD (p : Int × Nat) : D := .tup [.int p.1, .int (p.2 : Nat)]
def g_look : DRs := fun ds st Q => ∃ (m n : Nat) (P : List (List Int)) (R : List (List (List Int))) (sl : List Int) (a : Nat), ds = [rowsD P, tabsD R, rowD sl, .int (a : Nat)] ∧ Setg m n P R ∧ (∀ t ∈ R, noRing t = true) ∧ m ≤ 60 ∧ n ≤ 60 ∧ Lay m n sl ∧ a < m ∧ Q (foundD (seekF P R sl n a n 0)) st
theorem ar_look (ds : List D) (st : DSt) (Q : DK) (h : g_look ds st Q) : ds.length = 4 := by
  obtain ⟨_, _, _, _, _, _, rfl, _⟩ := h
  rfl
set_option maxHeartbeats 2000000 in
theorem sem_look (ds : List D) (st : DSt) (Q : DK) (h : g_look ds st Q) : F_look_up g_reqO { nx := fun _ st' => Rt st Q .non st', rt := Rt st Q } (startD 6 ds) st := by
  obtain ⟨m, n, P, R, sl, a, rfl, S, all, m60, n60, L, ha, q⟩ := h
  have st6 : startD 6 [rowsD P, tabsD R, rowD sl, D.int (a : Nat)] = [some (.tup (P.map rowD)), some (.tup (R.map rowsD)), some (.tup (sl.map D.int)), some (.int (a : Nat)), none, none] := rfl
  have hR : D.tup (R.map rowsD) = tabsD R := rfl
  simp only [F_look_up, st6]
  try dsimp only
  rw [e_seq]
  try simp only [e_var, e_C, e_op, e_neg, e_isN, e_notN, e_and, e_or, e_not, e_test, e_tAnd, e_tOr, e_tNot, e_tYes, e_if, e_aNil, e_aCons, e_tup, e_lst, e_lstN, e_len0, e_len1, e_len2, e_len3, e_len4, e_len5, e_cb, e_on1, e_on2, e_onI, e_onB, e_onO, e_onO0, e_onOO, e_I0, e_I, e_add, e_addT, e_addS, e_addL, e_addLR, e_addRL, e_addRR, e_mul, e_mulL, e_mulT, e_rev, e_revT, e_ix, e_eqI, e_eqS, e_eqB, e_neI, e_neS, e_neB, e_ltI, e_chain, e_len, e_abs, e_2I, e_tuple1, e_tuple2, e_tuple3, e_listT, e_listN, e_allR, e_seqT, e_seqK, e_seqL, e_isi, e_isB, e_notB, e_truth, e_next, e_drop, e_ret, e_retN, e_ifS, e_set, e_asg, e_par, e_nm, e_gsN, e_gsC, e_gTpK, e_gTpL, e_sum, e_maxL, e_minL, e_maxDef, e_int, e_intB, e_aug, e_on3, e_par3, e_newK, e_getK, e_keyI, e_keyS, e_inK, e_ninK, e_putK, e_lenK, e_lstS, e_seqX, e_gTpT, e_oN, e_oS, e_sl, e_slT, e_slL, e_finT, e_finN, e_index, e_idxT, e_idxL, e_mIx, e_ixST, e_ixSL, e_mtL, e_w, e_w1, e_w2, e_wE, e_wZ, e_itK, e_itT, e_itL, e_itT2, e_itL2, e_lc, e_for, e_wipe0, e_wipe, e_okI, e_okR, e_gSb, List.getElem?_cons_zero, List.getElem?_cons_succ, List.set_cons_zero, List.set_cons_succ]
  rw [hR]
  refine ⟨m, R, rfl, by rw [S.rl]; omega, m60, fun t ht => ⟨S.rt t ht, all t ht⟩, ?_⟩
  rw [← hR]
  try simp only [e_var, e_C, e_op, e_neg, e_isN, e_notN, e_and, e_or, e_not, e_test, e_tAnd, e_tOr, e_tNot, e_tYes, e_if, e_aNil, e_aCons, e_tup, e_lst, e_lstN, e_len0, e_len1, e_len2, e_len3, e_len4, e_len5, e_cb, e_on1, e_on2, e_onI, e_onB, e_onO, e_onO0, e_onOO, e_I0, e_I, e_add, e_addT, e_addS, e_addL, e_addLR, e_addRL, e_addRR, e_mul, e_mulL, e_mulT, e_rev, e_revT, e_ix, e_eqI, e_eqS, e_eqB, e_neI, e_neS, e_neB, e_ltI, e_chain, e_len, e_abs, e_2I, e_tuple1, e_tuple2, e_tuple3, e_listT, e_listN, e_allR, e_seqT, e_seqK, e_seqL, e_isi, e_isB, e_notB, e_truth, e_next, e_drop, e_ret, e_retN, e_ifS, e_set, e_asg, e_par, e_nm, e_gsN, e_gsC, e_gTpK, e_gTpL, e_sum, e_maxL, e_minL, e_maxDef, e_int, e_intB, e_aug, e_on3, e_par3, e_newK, e_getK, e_keyI, e_keyS, e_inK, e_ninK, e_putK, e_lenK, e_lstS, e_seqX, e_gTpT, e_oN, e_oS, e_sl, e_slT, e_slL, e_finT, e_finN, e_index, e_idxT, e_idxL, e_mIx, e_ixST, e_ixSL, e_mtL, e_w, e_w1, e_w2, e_wE, e_wZ, e_itK, e_itT, e_itL, e_itT2, e_itL2, e_lc, e_for, e_wipe0, e_wipe, e_okI, e_okR, e_gSb, List.getElem?_cons_zero, List.getElem?_cons_succ, List.set_cons_zero, List.set_cons_succ]
  try dsimp only
  rw [e_seq]
  try simp only [e_var, e_C, e_op, e_neg, e_isN, e_notN, e_and, e_or, e_not, e_test, e_tAnd, e_tOr, e_tNot, e_tYes, e_if, e_aNil, e_aCons, e_tup, e_lst, e_lstN, e_len0, e_len1, e_len2, e_len3, e_len4, e_len5, e_cb, e_on1, e_on2, e_onI, e_onB, e_onO, e_onO0, e_onOO, e_I0, e_I, e_add, e_addT, e_addS, e_addL, e_addLR, e_addRL, e_addRR, e_mul, e_mulL, e_mulT, e_rev, e_revT, e_ix, e_eqI, e_eqS, e_eqB, e_neI, e_neS, e_neB, e_ltI, e_chain, e_len, e_abs, e_2I, e_tuple1, e_tuple2, e_tuple3, e_listT, e_listN, e_allR, e_seqT, e_seqK, e_seqL, e_isi, e_isB, e_notB, e_truth, e_next, e_drop, e_ret, e_retN, e_ifS, e_set, e_asg, e_par, e_nm, e_gsN, e_gsC, e_gTpK, e_gTpL, e_sum, e_maxL, e_minL, e_maxDef, e_int, e_intB, e_aug, e_on3, e_par3, e_newK, e_getK, e_keyI, e_keyS, e_inK, e_ninK, e_putK, e_lenK, e_lstS, e_seqX, e_gTpT, e_oN, e_oS, e_sl, e_slT, e_slL, e_finT, e_finN, e_index, e_idxT, e_idxL, e_mIx, e_ixST, e_ixSL, e_mtL, e_w, e_w1, e_w2, e_wE, e_wZ, e_itK, e_itT, e_itL, e_itT2, e_itL2, e_lc, e_for, e_wipe0, e_wipe, e_okI, e_okR, e_gSb, List.getElem?_cons_zero, List.getElem?_cons_succ, List.set_cons_zero, List.set_cons_succ, e_wEK, S.p_at ha]
  have lo := (S.ord ha).len
  have q' : Rt st Q (foundD (seekF P R sl n a (n - 0) 0)) st := .inl q
  refine for_inv (fun left r st' => ∃ (i : Nat) (x4 x5 : Option D), left = (enumDK 1 ((P.getD a []).map D.int)).drop i ∧ i ≤ n ∧ r = [some (.tup (P.map rowD)), some (.tup (R.map rowsD)), some (.tup (sl.map D.int)), some (.int (a : Nat)), x4, x5] ∧ st = st' ∧ Rt st Q (foundD (seekF P R sl n a (n - i) i)) st') ?_ ?_ _ _ _ ⟨0, _, _, rfl, Nat.zero_le _, rfl, rfl, q'⟩
  · rintro d left r st' N hN ⟨i, x4, x5, e, le, rfl, rfl, q⟩
    obtain ⟨li, rfl, rfl⟩ := enumK_drop e
    have hi : i < n := by omega
    obtain ⟨ep, hp⟩ := S.pr_at ha hi
    have ex : (P.getD a []).getD i 0 = ((pr P a i : Nat) : Int) := by rw [List.getD_eq_getElem?_getD, ep]; rfl
    rw [ex]
    rw [show n - i = (n - (i + 1)) + 1 by omega] at q
    unfold seekF at q
    have rs : atI (sl.map D.int) ((pr P a i : Nat) : Int) = some (.int (sl.getD (pr P a i) 0)) := row_at (by rw [L.len]; exact hp)
    try simp only [e_var, e_C, e_op, e_neg, e_isN, e_notN, e_and, e_or, e_not, e_test, e_tAnd, e_tOr, e_tNot, e_tYes, e_if, e_aNil, e_aCons, e_tup, e_lst, e_lstN, e_len0, e_len1, e_len2, e_len3, e_len4, e_len5, e_cb, e_on1, e_on2, e_onI, e_onB, e_onO, e_onO0, e_onOO, e_I0, e_I, e_add, e_addT, e_addS, e_addL, e_addLR, e_addRL, e_addRR, e_mul, e_mulL, e_mulT, e_rev, e_revT, e_ix, e_eqI, e_eqS, e_eqB, e_neI, e_neS, e_neB, e_ltI, e_chain, e_len, e_abs, e_2I, e_tuple1, e_tuple2, e_tuple3, e_listT, e_listN, e_allR, e_seqT, e_seqK, e_seqL, e_isi, e_isB, e_notB, e_truth, e_next, e_drop, e_ret, e_retN, e_ifS, e_set, e_asg, e_par, e_nm, e_gsN, e_gsC, e_gTpK, e_gTpL, e_sum, e_maxL, e_minL, e_maxDef, e_int, e_intB, e_aug, e_on3, e_par3, e_newK, e_getK, e_keyI, e_keyS, e_inK, e_ninK, e_putK, e_lenK, e_lstS, e_seqX, e_gTpT, e_oN, e_oS, e_sl, e_slT, e_slL, e_finT, e_finN, e_index, e_idxT, e_idxL, e_mIx, e_ixST, e_ixSL, e_mtL, e_w, e_w1, e_w2, e_wE, e_wZ, e_itK, e_itT, e_itL, e_itT2, e_itL2, e_lc, e_for, e_wipe0, e_wipe, e_okI, e_okR, e_gSb, List.getElem?_cons_zero, List.getElem?_cons_succ, List.set_cons_zero, List.set_cons_succ]
    refine ⟨rfl, ?_⟩
    try dsimp only
    rw [e_seq]
    try simp only [e_var, e_C, e_op, e_neg, e_isN, e_notN, e_and, e_or, e_not, e_test, e_tAnd, e_tOr, e_tNot, e_tYes, e_if, e_aNil, e_aCons, e_tup, e_lst, e_lstN, e_len0, e_len1, e_len2, e_len3, e_len4, e_len5, e_cb, e_on1, e_on2, e_onI, e_onB, e_onO, e_onO0, e_onOO, e_I0, e_I, e_add, e_addT, e_addS, e_addL, e_addLR, e_addRL, e_addRR, e_mul, e_mulL, e_mulT, e_rev, e_revT, e_ix, e_eqI, e_eqS, e_eqB, e_neI, e_neS, e_neB, e_ltI, e_chain, e_len, e_abs, e_2I, e_tuple1, e_tuple2, e_tuple3, e_listT, e_listN, e_allR, e_seqT, e_seqK, e_seqL, e_isi, e_isB, e_notB, e_truth, e_next, e_drop, e_ret, e_retN, e_ifS, e_set, e_asg, e_par, e_nm, e_gsN, e_gsC, e_gTpK, e_gTpL, e_sum, e_maxL, e_minL, e_maxDef, e_int, e_intB, e_aug, e_on3, e_par3, e_newK, e_getK, e_keyI, e_keyS, e_inK, e_ninK, e_putK, e_lenK, e_lstS, e_seqX, e_gTpT, e_oN, e_oS, e_sl, e_slT, e_slL, e_finT, e_finN, e_index, e_idxT, e_idxL, e_mIx, e_ixST, e_ixSL, e_mtL, e_w, e_w1, e_w2, e_wE, e_wZ, e_itK, e_itT, e_itL, e_itT2, e_itL2, e_lc, e_for, e_wipe0, e_wipe, e_okI, e_okR, e_gSb, List.getElem?_cons_zero, List.getElem?_cons_succ, List.set_cons_zero, List.set_cons_succ, rs]
    by_cases c1 : sl.getD (pr P a i) 0 = (a : Int)
    · refine iteT' (decide_eq_true c1) ?_
      rw [if_pos c1] at q
      try simp only [e_var, e_C, e_op, e_neg, e_isN, e_notN, e_and, e_or, e_not, e_test, e_tAnd, e_tOr, e_tNot, e_tYes, e_if, e_aNil, e_aCons, e_tup, e_lst, e_lstN, e_len0, e_len1, e_len2, e_len3, e_len4, e_len5, e_cb, e_on1, e_on2, e_onI, e_onB, e_onO, e_onO0, e_onOO, e_I0, e_I, e_add, e_addT, e_addS, e_addL, e_addLR, e_addRL, e_addRR, e_mul, e_mulL, e_mulT, e_rev, e_revT, e_ix, e_eqI, e_eqS, e_eqB, e_neI, e_neS, e_neB, e_ltI, e_chain, e_len, e_abs, e_2I, e_tuple1, e_tuple2, e_tuple3, e_listT, e_listN, e_allR, e_seqT, e_seqK, e_seqL, e_isi, e_isB, e_notB, e_truth, e_next, e_drop, e_ret, e_retN, e_ifS, e_set, e_asg, e_par, e_nm, e_gsN, e_gsC, e_gTpK, e_gTpL, e_sum, e_maxL, e_minL, e_maxDef, e_int, e_intB, e_aug, e_on3, e_par3, e_newK, e_getK, e_keyI, e_keyS, e_inK, e_ninK, e_putK, e_lenK, e_lstS, e_seqX, e_gTpT, e_oN, e_oS, e_sl, e_slT, e_slL, e_finT, e_finN, e_index, e_idxT, e_idxL, e_mIx, e_ixST, e_ixSL, e_mtL, e_w, e_w1, e_w2, e_wE, e_wZ, e_itK, e_itT, e_itL, e_itT2, e_itL2, e_lc, e_for, e_wipe0, e_wipe, e_okI, e_okR, e_gSb, List.getElem?_cons_zero, List.getElem?_cons_succ, List.set_cons_zero, List.set_cons_succ]
      exact q
    · refine iteF' (decide_eq_false c1) ?_
      rw [if_neg c1] at q
      try simp only [e_var, e_C, e_op, e_neg, e_isN, e_notN, e_and, e_or, e_not, e_test, e_tAnd, e_tOr, e_tNot, e_tYes, e_if, e_aNil, e_aCons, e_tup, e_lst, e_lstN, e_len0, e_len1, e_len2, e_len3, e_len4, e_len5, e_cb, e_on1, e_on2, e_onI, e_onB, e_onO, e_onO0, e_onOO, e_I0, e_I, e_add, e_addT, e_addS, e_addL, e_addLR, e_addRL, e_addRR, e_mul, e_mulL, e_mulT, e_rev, e_revT, e_ix, e_eqI, e_eqS, e_eqB, e_neI, e_neS, e_neB, e_ltI, e_chain, e_len, e_abs, e_2I, e_tuple1, e_tuple2, e_tuple3, e_listT, e_listN, e_allR, e_seqT, e_seqK, e_seqL, e_isi, e_isB, e_notB, e_truth, e_next, e_drop, e_ret, e_retN, e_ifS, e_set, e_asg, e_par, e_nm, e_gsN, e_gsC, e_gTpK, e_gTpL, e_sum, e_maxL, e_minL, e_maxDef, e_int, e_intB, e_aug, e_on3, e_par3, e_newK, e_getK, e_keyI, e_keyS, e_inK, e_ninK, e_putK, e_lenK, e_lstS, e_seqX, e_gTpT, e_oN, e_oS, e_sl, e_slT, e_slL, e_finT, e_finN, e_index, e_idxT, e_idxL, e_mIx, e_ixST, e_ixSL, e_mtL, e_w, e_w1, e_w2, e_wE, e_wZ, e_itK, e_itT, e_itL, e_itT2, e_itL2, e_lc, e_for, e_wipe0, e_wipe, e_okI, e_okR, e_gSb, List.getElem?_cons_zero, List.getElem?_cons_succ, List.set_cons_zero, List.set_cons_succ, rs]
      by_cases c2 : sl.getD (pr P a i) 0 = -1
      · refine iteT' (decide_eq_true c2) ?_
        rw [if_pos (.inl c2)] at q
        first
          | exact q
          | (rw [if_pos trivial]; exact q)
      · refine iteF' (decide_eq_false c2) ?_
        try simp only [e_var, e_C, e_op, e_neg, e_isN, e_notN, e_and, e_or, e_not, e_test, e_tAnd, e_tOr, e_tNot, e_tYes, e_if, e_aNil, e_aCons, e_tup, e_lst, e_lstN, e_len0, e_len1, e_len2, e_len3, e_len4, e_len5, e_cb, e_on1, e_on2, e_onI, e_onB, e_onO, e_onO0, e_onOO, e_I0, e_I, e_add, e_addT, e_addS, e_addL, e_addLR, e_addRL, e_addRR, e_mul, e_mulL, e_mulT, e_rev, e_revT, e_ix, e_eqI, e_eqS, e_eqB, e_neI, e_neS, e_neB, e_ltI, e_chain, e_len, e_abs, e_2I, e_tuple1, e_tuple2, e_tuple3, e_listT, e_listN, e_allR, e_seqT, e_seqK, e_seqL, e_isi, e_isB, e_notB, e_truth, e_next, e_drop, e_ret, e_retN, e_ifS, e_set, e_asg, e_par, e_nm, e_gsN, e_gsC, e_gTpK, e_gTpL, e_sum, e_maxL, e_minL, e_maxDef, e_int, e_intB, e_aug, e_on3, e_par3, e_newK, e_getK, e_keyI, e_keyS, e_inK, e_ninK, e_putK, e_lenK, e_lstS, e_seqX, e_gTpT, e_oN, e_oS, e_sl, e_slT, e_slL, e_finT, e_finN, e_index, e_idxT, e_idxL, e_mIx, e_ixST, e_ixSL, e_mtL, e_w, e_w1, e_w2, e_wE, e_wZ, e_itK, e_itT, e_itL, e_itT2, e_itL2, e_lc, e_for, e_wipe0, e_wipe, e_okI, e_okR, e_gSb, List.getElem?_cons_zero, List.getElem?_cons_succ, List.set_cons_zero, List.set_cons_succ, S.r_at hp, S.t_at hp ha]
        refine row_in ?_
        try simp only [e_var, e_C, e_op, e_neg, e_isN, e_notN, e_and, e_or, e_not, e_test, e_tAnd, e_tOr, e_tNot, e_tYes, e_if, e_aNil, e_aCons, e_tup, e_lst, e_lstN, e_len0, e_len1, e_len2, e_len3, e_len4, e_len5, e_cb, e_on1, e_on2, e_onI, e_onB, e_onO, e_onO0, e_onOO, e_I0, e_I, e_add, e_addT, e_addS, e_addL, e_addLR, e_addRL, e_addRR, e_mul, e_mulL, e_mulT, e_rev, e_revT, e_ix, e_eqI, e_eqS, e_eqB, e_neI, e_neS, e_neB, e_ltI, e_chain, e_len, e_abs, e_2I, e_tuple1, e_tuple2, e_tuple3, e_listT, e_listN, e_allR, e_seqT, e_seqK, e_seqL, e_isi, e_isB, e_notB, e_truth, e_next, e_drop, e_ret, e_retN, e_ifS, e_set, e_asg, e_par, e_nm, e_gsN, e_gsC, e_gTpK, e_gTpL, e_sum, e_maxL, e_minL, e_maxDef, e_int, e_intB, e_aug, e_on3, e_par3, e_newK, e_getK, e_keyI, e_keyS, e_inK, e_ninK, e_putK, e_lenK, e_lstS, e_seqX, e_gTpT, e_oN, e_oS, e_sl, e_slT, e_slL, e_finT, e_finN, e_index, e_idxT, e_idxL, e_mIx, e_ixST, e_ixSL, e_mtL, e_w, e_w1, e_w2, e_wE, e_wZ, e_itK, e_itT, e_itL, e_itT2, e_itL2, e_lc, e_for, e_wipe0, e_wipe, e_okI, e_okR, e_gSb, List.getElem?_cons_zero, List.getElem?_cons_succ, List.set_cons_zero, List.set_cons_succ]
        by_cases c3 : sl.getD (pr P a i) 0 ∈ (R.getD (pr P a i) []).getD a []
        · refine iteT' (decide_eq_true c3) ?_
          rw [if_pos (.inr c3)] at q
          exact q
        · refine iteF' (decide_eq_false c3) ?_
          rw [if_neg (fun z => z.elim c2 c3)] at q
          exact hN _ _ (.inl ⟨i + 1, _, _, rfl, by omega, rfl, rfl, q⟩)
  · rintro r st' ⟨i, x4, x5, e, le, rfl, rfl, q⟩
    have := enumK_end e
    rw [show n - i = 0 by omega] at q
    unfold seekF at q
    try simp only [e_var, e_C, e_op, e_neg, e_isN, e_notN, e_and, e_or, e_not, e_test, e_tAnd, e_tOr, e_tNot, e_tYes, e_if, e_aNil, e_aCons, e_tup, e_lst, e_lstN, e_len0, e_len1, e_len2, e_len3, e_len4, e_len5, e_cb, e_on1, e_on2, e_onI, e_onB, e_onO, e_onO0, e_onOO, e_I0, e_I, e_add, e_addT, e_addS, e_addL, e_addLR, e_addRL, e_addRR, e_mul, e_mulL, e_mulT, e_rev, e_revT, e_ix, e_eqI, e_eqS, e_eqB, e_neI, e_neS, e_neB, e_ltI, e_chain, e_len, e_abs, e_2I, e_tuple1, e_tuple2, e_tuple3, e_listT, e_listN, e_allR, e_seqT, e_seqK, e_seqL, e_isi, e_isB, e_notB, e_truth, e_next, e_drop, e_ret, e_retN, e_ifS, e_set, e_asg, e_par, e_nm, e_gsN, e_gsC, e_gTpK, e_gTpL, e_sum, e_maxL, e_minL, e_maxDef, e_int, e_intB, e_aug, e_on3, e_par3, e_newK, e_getK, e_keyI, e_keyS, e_inK, e_ninK, e_putK, e_lenK, e_lstS, e_seqX, e_gTpT, e_oN, e_oS, e_sl, e_slT, e_slL, e_finT, e_finN, e_index, e_idxT, e_idxL, e_mIx, e_ixST, e_ixSL, e_mtL, e_w, e_w1, e_w2, e_wE, e_wZ, e_itK, e_itT, e_itL, e_itT2, e_itL2, e_lc, e_for, e_wipe0, e_wipe, e_okI, e_okR, e_gSb, List.getElem?_cons_zero, List.getElem?_cons_succ, List.set_cons_zero, List.set_cons_succ, List.length_map, L.len]
    exact q
end DL
namespace DL
open PySem PySem.Spec PyProof.Rows L2 LamX PySem.W SL
end DL
namespace DL
open PySem PySem.Spec PyProof.Rows L2 LamX PySem.W SL
end DL
namespace ML
end ML
namespace ML
def spread (rs : List (Int × Int)) : List Int := rs.flatMap fun p => List.replicate p.1.toNat p.2
theorem spread_cons (p : Int × Int) (rs : List (Int × Int)) : spread (p :: rs) = List.replicate p.1.toNat p.2 ++ spread rs := by unfold spread; simp
structure Rn (rs : List (Int × Int)) : Prop where
  ne : rs ≠ []
  size : ∀ p ∈ rs, 1 ≤ p.1
  nn : ∀ p ∈ rs, 0 ≤ p.2
theorem sumL_rep (m : Nat) (c : Int) : sumL (List.replicate m c) = (m : Int) * c := by
  induction m with
  | zero => simp [sumL]
  | succ m ih => rw [List.replicate_succ, sumL_cons, ih, Int.natCast_add, Int.add_mul]; simp; omega
theorem spread_sum : ∀ rs : List (Int × Int), (∀ p ∈ rs, 0 ≤ p.1) → sumL (spread rs) = (rs.map fun p => p.1 * p.2).sum ∧ ((spread rs).length : Int) = (rs.map fun p => p.1).sum
  | [], _ => ⟨rfl, rfl⟩
  | p :: rs, h => by
    obtain ⟨a, b⟩ := spread_sum rs fun q hq => h q (List.mem_cons_of_mem _ hq)
    have h1 := h p (by simp)
    have e : ((p.1.toNat : Nat) : Int) = p.1 := by omega
    rw [spread_cons, sumL_append, sumL_rep, a, e, List.length_append, List.length_replicate, Int.natCast_add, b, e]
    simp
end ML
namespace ML
section
variable {n : Nat} {o : Nat → Prop} [DecidablePred o] {h d : Nat → Nat}
end
end ML
namespace DL
open PySem PySem.Spec PyProof.Rows L2 LamX PySem.W SL
section
variable {m n : Nat} {P : List (List Int)} {R : List (List (List Int))}
def Wants (P : List (List Int)) (sl : List Int) (h k s : Nat) : Prop := At sl s k ∧ rk P k h < rk P k s
end
end DL
namespace DL
open PySem PySem.Spec PyProof.Rows L2 LamX PySem.W SL
def LayD (st : DSt) (sl : List Int) (d : D) : Prop := d = rowD sl ∨ ∃ w, d = .ref w ∧ st[w]? = some (.lst (sl.map D.int))
theorem LayD.ix {st : DSt} {sl : List Int} {d : D} (h : LayD st sl d) : IdxD st d ∧ ixS st d = some (sl.map D.int) := by
  rcases h with rfl | ⟨w, rfl, e⟩
  · exact ⟨trivial, rfl⟩
  · unfold IdxD ixS
    simp only [e]
    exact ⟨trivial, trivial⟩
section
variable {m n : Nat} {P : List (List Int)} {R : List (List (List Int))}
end
end DL
namespace DL
open PySem PySem.Spec PyProof.Rows L2 LamX PySem.W SL
section
variable {m n : Nat} {P : List (List Int)} {R : List (List (List Int))}
end
end DL
namespace DL
open PySem PySem.Spec PyProof.Rows L2 LamX PySem.W SL
end DL
namespace DL
open PySem PySem.Spec PyProof.Rows L2 LamX PySem.W SL
end DL
namespace DL
open PySem PySem.Spec PyProof.Rows L2 LamX PySem.W SL
end DL
namespace DL
open PySem PySem.Spec PyProof.Rows L2 LamX PySem.W SL
section
variable {m n : Nat} {P P2 : List (List Int)} {R R2 : List (List (List Int))} {L : List Int}
def Asks (P : List (List Int)) (L : List Int) (k j : Nat) : Prop := ∃ u, At L u k ∧ j ≤ rk P k u
structure Alike (n : Nat) (P : List (List Int)) (R : List (List (List Int))) (P2 : List (List Int)) (R2 : List (List (List Int))) (L : List Int) : Prop where
  p : ∀ k j, Asks P L k j → pr P2 k j = pr P k j
  r : ∀ s a b, s < n → Asks P L a (rk P a s) → Asks P L b (rk P b s) → bt R2 s a b = bt R s a b
theorem Alike.rk (S : Setg m n P R) (S2 : Setg m n P2 R2) (A : Alike n P R P2 R2 L) {k s : Nat} (km : k < m) (sn : s < n) (h : Asks P L k (rk P k s)) : DL.rk P2 k s = DL.rk P k s := by
  have e := A.p k _ h
  rw [S.pr_rk km sn] at e
  have z := S2.rk_pr km (S.rk_at km sn).2.1
  rw [e] at z
  exact z
def LaterK (P : List (List Int)) (sl L : List Int) : Prop := ∀ s k, At sl s k → Asks P L k (DL.rk P k s)
theorem LaterK.trans {a b c : List Int} (h1 : LaterK P a b) (h2 : LaterK P b c) : LaterK P a c := fun s k hk => by
  obtain ⟨u, hu, lu⟩ := h1 s k hk
  obtain ⟨w, hw, lw⟩ := h2 u k hu
  exact ⟨w, hw, Nat.le_trans lu lw⟩
end
end DL
namespace DL
open PySem PySem.Spec PyProof.Rows L2 LamX PySem.W SL
end DL
namespace DL
open PySem PySem.Spec PyProof.Rows L2 LamX PySem.W SL
end DL
namespace DL
open PySem PySem.Spec PyProof.Rows L2 LamX PySem.W SL
def stay (P : List (List Int)) (sl : List Int) (k : Nat) : Nat := if (k : Int) ∈ sl then rk P k (pos sl (k : Int)) + 1 else 0
end DL
namespace DL
open PySem PySem.Spec PyProof.Rows L2 LamX PySem.W SL
end DL
namespace DL
open PySem PySem.Spec PyProof.Rows L2 LamX PySem.W SL
end DL
namespace DL
open PySem PySem.Spec PyProof.Rows L2 LamX PySem.W SL
end DL
namespace DL
open PySem PySem.Spec PyProof.Rows L2 LamX PySem.W SL
structure Put (n : Nat) (cc far : List Int) : Prop where
  ex : ∃ (o : Nat → Bool) (h d : Nat → Nat), ML.Pl n (fun s => o s = true) h d ∧ (∀ s, s < n → (o s = true ↔ isTk cc s = true)) ∧ (∀ g : Int → Int, ML.sumL (far.map g) = ML.sumN n (fun s => if o s = true then g (d s) else 0)) ∧ (∀ s, s < n → o s = true → ((d s : Nat) : Int) ∈ far) ∧ ∀ u, u < n → ML.psd n (fun s => o s = true) h d u = (ML.flowsI cc).getD u 0
theorem rep_getD {n i : Nat} : (List.replicate n (0 : Int)).getD i 0 = 0 := by
  rw [List.getD_eq_getElem?_getD, List.getElem?_replicate]
  split <;> rfl
theorem Put.start (n : Nat) : Put n (List.replicate n 0) [] := by
  refine ⟨fun _ => false, fun _ => 0, fun _ => 0, ⟨fun s _ h => (by cases h), fun s _ h => (by cases h)⟩, fun s hs => ?_, fun g => ?_, fun s _ h => (by cases h), fun u hu => ?_⟩
  · have e1 : isTk (List.replicate n 0) s = false := by
      unfold isTk ML.cy
      rw [flows_rep0, rep_getD, rep_getD]
      rfl
    rw [e1]
  · rw [ML.sumN_congr (h := fun _ => (0 : Int)) (fun s _ => if_neg (fun z => by cases z)), ML.sumN_zero]
    rfl
  · rw [flows_rep0, rep_getD]
    unfold ML.psd ML.ev
    rw [ML.sumN_congr (h := fun _ => (0 : Int)) (fun s _ => if_neg (fun z => by cases z.1)), ML.sumN_zero]
theorem Put.step {n : Nat} {cc far : List Int} {i L : Nat} (P : Put n cc far) (l : cc.length = n) (mo : More cc i L) : Put n (plus cc i) (far ++ [(L : Int)]) := by
  obtain ⟨o, h, d, pl, occ, sm, mem, ps⟩ := P.ex
  have hi := mo.ha
  rw [l] at hi
  have n0 : 0 < n := by omega
  have Ll := mo.pas.lt
  rw [l] at Ll
  have no := mo.no
  rw [l] at no
  have xl : (i + L) % n < n := Nat.mod_lt _ n0
  have ox : o ((i + L) % n) = false := by
    cases e : o ((i + L) % n) with
    | false => rfl
    | true =>
      have := (occ _ xl).mp e
      rw [no] at this
      cases this
  generalize hx : (i + L) % n = x at no xl ox
  refine ⟨fun s => o s || decide (s = x), fun s => if s = x then i else h s, fun s => if s = x then L else d s, ⟨fun s hs q => ?_, fun s hs q => ?_⟩, fun s hs => ?_, fun g => ?_, fun s hs q => ?_, fun u hu => ?_⟩
  · by_cases e : s = x
    · simp only [if_pos e]; exact hi
    · simp only [if_neg e]
      simp [e] at q
      exact pl.home s hs q
  · by_cases e : s = x
    · simp only [if_pos e]
      exact ⟨Ll, by rw [hx, e]⟩
    · simp only [if_neg e]
      simp [e] at q
      exact pl.far s hs q
  · have t := mo.tk (s := s) (by rw [l]; exact hs)
    rw [l, hx] at t
    rw [t, Bool.or_eq_true, decide_eq_true_eq, occ s hs]
  · rw [List.map_append, ML.sumL_append, sm g]
    have up := sumN_upd (n := n) (x := x) (g := fun s => if o s = true then g (d s) else 0) (g' := fun s => if (o s || decide (s = x)) = true then g ((if s = x then L else d s : Nat) : Int) else 0) xl fun s _ ne => by
      simp only [ne, decide_false, Bool.or_false, if_false]
    rw [up]
    simp only [ox, Bool.false_or, decide_true, if_true]
    show _ + (g L + 0) = _
    simp
  · by_cases e : s = x
    · simp only [if_pos e]; simp
    · simp only [if_neg e]
      simp [e] at q
      exact List.mem_append_left _ (mem s hs q)
  · have up := sumN_upd (n := n) (x := x) (g := ML.ev n (fun s => o s = true) h d u 0) (g' := ML.ev n (fun s => (o s || decide (s = x)) = true) (fun s => if s = x then i else h s) (fun s => if s = x then L else d s) u 0) xl fun s _ ne => by
      unfold ML.ev
      simp only [ne, decide_false, Bool.or_false, if_false]
    unfold ML.psd
    rw [up, mo.flows, addL_at (by rw [ML.flowsI_length, l]; exact hu), ML.flowsI_length, l, ← ps u hu]
    unfold ML.psd ML.ev
    simp only [ox, Bool.false_or, decide_true, if_true, Nat.add_zero, true_and, if_false, Bool.false_eq_true, false_and]
    omega
theorem Put.sq {n : Nat} {c far : List Int} (P : Put n c far) (l : c.length = n) (hc : Cnt c) : sqSum (waitsI c) ≤ ML.sumL (far.map fun x => x * x) := by
  obtain ⟨o, h, d, pl, occ, sm, mem, ps⟩ := P.ex
  have n0 : 0 < n := by have := hc.pos; omega
  have z := ML.psd_sq pl n0 fun u hu => by
    rw [ps u hu]
    have := flow_le hc (u := u) (by omega)
    omega
  rw [sq_waits_flows hc, l, sm]
  rw [ML.sumN_congr (h := fun u => (ML.flowsI c).getD u 0 * (ML.flowsI c).getD u 0) fun u hu => by rw [ps u hu]] at z
  exact z
theorem Put.max {n : Nat} {c far : List Int} (P : Put n c far) (l : c.length = n) (hc : Cnt c) {w : Int} (hw : w ∈ waitsI c) (w0 : 0 < w) : ∃ x ∈ far, w ≤ x := by
  obtain ⟨o, h, d, pl, occ, sm, mem, ps⟩ := P.ex
  obtain ⟨u, hu, le⟩ := wait_flow hc hw
  rw [l] at hu
  rw [← ps u hu] at le
  obtain ⟨s, hs', os, q⟩ := ML.psd_far pl hu (by omega)
  exact ⟨_, mem s hs' os, by omega⟩
end DL
namespace ML
end ML
namespace DL
open PySem PySem.Spec PyProof.Rows L2 LamX PySem.W SL
structure Rok (rs : List (Int × Int)) : Prop where
  n : ML.Rn rs
  few : rs.length ≤ 1000
  sm : ∀ p ∈ rs, p.1 < 2 ^ 63 ∧ p.2 < 2 ^ 63
  room : (rs.map fun p => p.1 * p.2).sum ≤ (rs.map fun p => p.1).sum
abbrev spr (rs : List (Int × Int)) : List Int := ML.spread rs
theorem Rok.nn1 {rs : List (Int × Int)} (R : Rok rs) : ∀ p ∈ rs, 0 ≤ p.1 := fun p hp => by have := R.n.size p hp; omega
theorem Rok.room2 {rs : List (Int × Int)} (R : Rok rs) : ML.sumL (spr rs) ≤ (spr rs).length := by
  obtain ⟨a, b⟩ := ML.spread_sum rs R.nn1
  have := R.room
  show ML.sumL (ML.spread rs) ≤ ((ML.spread rs).length : Int)
  rw [a, b]
  exact this
theorem Rok.ne2 {rs : List (Int × Int)} (R : Rok rs) : spr rs ≠ [] := by
  obtain ⟨p, r, rfl⟩ := List.exists_cons_of_ne_nil R.n.ne
  have := R.n.size p (by simp)
  show ML.spread (p :: r) ≠ []
  rw [ML.spread_cons]
  intro e
  have := congrArg List.length e
  simp at this
  omega
theorem Runs.seq {rs : List (Int × Int)} {d : D} (h : Runs rs d) (st : DSt) : seqS st d = some (rs.map pairD) := by rcases h with rfl | rfl <;> rfl
end DL
namespace DL
open PySem PySem.Spec PyProof.Rows L2 LamX PySem.W SL
end DL
namespace DL
open PySem PySem.Spec PyProof.Rows L2 LamX PySem.W SL
end DL
namespace DL
open PySem PySem.Spec PyProof.Rows L2 LamX PySem.W SL
theorem Rok.cnt {rs : List (Int × Int)} (R : Rok rs) (l : (spr rs).length ≤ 900) : Cnt (spr rs) := by
  refine ⟨R.ne2, l, fun x hx => ?_, R.room2⟩
  obtain ⟨p, hp, hx⟩ := List.mem_flatMap.mp hx
  rw [List.eq_of_mem_replicate hx]
  exact R.n.nn p hp
end DL
namespace DL
open PySem PySem.Spec PyProof.Rows L2 LamX PySem.W SL
section
variable {m n : Nat} {hs : List Nat} {P : List (List Int)} {R : List (List (List Int))}
end
end DL
namespace ML
end ML
namespace DL
open PySem PySem.Spec PyProof.Rows L2 LamX PySem.W SL
section
variable {m n : Nat} {hs : List Nat} {c : List Int} {ps : List (Nat × Nat)}
end
end DL
namespace DL
open PySem PySem.Spec PyProof.Rows L2 LamX PySem.W SL
def bump (cn : Nat → Nat) (w : Nat) : Nat → Nat := fun k => if k = w then cn w + 1 else cn k
theorem bump_self {cn : Nat → Nat} {w : Nat} : bump cn w w = cn w + 1 := if_pos rfl
theorem bump_ne {cn : Nat → Nat} {w k : Nat} (h : k ≠ w) : bump cn w k = cn k := if_neg h
structure Askd (m n : Nat) (P : List (List Int)) (R : List (List (List Int))) (h : List Nat) (sl : List Int) (ws : List Nat) (cn : Nat → Nat) : Prop where
  lay : Lay m n sl
  nd : ws.Nodup
  all : ∀ k, k ∈ h ↔ k ∈ ws ∨ ∃ s, At sl s k
  dis : ∀ k, k ∈ ws → ∀ s, ¬ At sl s k
  cnt : ∀ s k, At sl s k → cn k = rk P k s + 1
  le : ∀ k, k ∈ h → cn k ≤ n
  ask : ∀ k, k ∈ h → ∀ j, j < cn k → ∃ k', At sl (pr P k j) k'
  z : ∃ e, e < n ∧ (∀ k, k ∈ h → ∀ j, j + 1 < cn k → pr P k j ≠ e) ∧ ∀ k, k ∈ ws → ∀ j, j < cn k → pr P k j ≠ e
  st : Trn m n R → ∀ k, k ∈ h → ∀ j, j < cn k → ∀ k', At sl (pr P k j) k' → k' = k ∨ bt R (pr P k j) k' k = true
  fx : Trn m n R → ∀ k, k ∈ h → ∀ u, At (layF P R h) u k → cn k ≤ rk P k u + 1
section
variable {m n : Nat} {P : List (List Int)} {R : List (List (List Int))} {h : List Nat} {sl : List Int} {ws : List Nat} {cn : Nat → Nat}
theorem Askd.good (S : Setg m n P R) (A : Askd m n P R h sl ws cn) : Good m n P sl := ⟨A.lay, fun s k a j lj => A.ask k ((A.all k).mpr (.inr ⟨s, a⟩)) j (by rw [A.cnt s k a]; omega)⟩
theorem Askd.room (S : Setg m n P R) (H : Hist m n h) (A : Askd m n P R h sl ws cn) {w : Nat} (hw : w ∈ ws) : ∃ t, t < n ∧ sl[t]? = some (-1) ∧ ∀ k, k ∈ h → ∀ j, j < cn k → pr P k j ≠ t := by
  have wh := (A.all w).mpr (.inl hw)
  have ks : ∀ k, (∃ s, At sl s k) ↔ k ∈ h.filter fun k => decide (k ∉ ws) := fun k => by
    rw [List.mem_filter, decide_eq_true_eq, A.all]
    exact ⟨fun e => ⟨.inr e, fun z => A.dis k z _ e.choose_spec⟩, fun ⟨a, b⟩ => a.resolve_left b⟩
  have lt : (h.filter fun k => decide (k ∉ ws)).length < n := by
    have a := (List.length_filter_lt_length_iff_exists (p := fun k => decide (k ∉ ws)) (l := h)).mpr ⟨w, wh, by simp [hw]⟩
    have := H.few
    omega
  obtain ⟨t, tn, e⟩ := lay_room A.lay (fun s k a => (ks k).mp ⟨s, a⟩) lt
  refine ⟨t, tn, e, fun k kh j lj z => ?_⟩
  obtain ⟨k', a⟩ := A.ask k kh j lj
  rw [z] at a
  exact a.ne e
theorem Askd.lt (S : Setg m n P R) (H : Hist m n h) (A : Askd m n P R h sl ws cn) {w : Nat} (hw : w ∈ ws) : cn w < n ∧ w < m := by
  have wh := (A.all w).mpr (.inl hw)
  have wm := H.lt w wh
  obtain ⟨t, tn, _, no⟩ := A.room S H hw
  have r := (S.rk_at wm tn).2.1
  refine ⟨?_, wm⟩
  rcases Nat.lt_or_ge (cn w) n with l | l
  · exact l
  · exact absurd (S.pr_rk wm tn) (no w wh _ (by omega))
theorem Askd.more (S : Setg m n P R) (H : Hist m n h) (A : Askd m n P R h sl ws cn) {w : Nat} (hw : w ∈ ws) (T : Trn m n R) (u : Nat) (hu : At (layF P R h) u w) : cn w + 1 ≤ rk P w u + 1 := by
  have wh := (A.all w).mpr (.inl hw)
  have wm := H.lt w wh
  have F := layF_fix S T H
  have un := (F.g.lay.key hu).2
  have a := A.fx T w wh u hu
  rcases Nat.lt_or_ge (rk P w u) (cn w) with l | l
  · exfalso
    have e := S.pr_rk wm un
    obtain ⟨k', hk'⟩ := A.ask w wh _ l
    have q := A.st T w wh _ l k' hk'
    rw [e] at hk' q
    have nk : k' ≠ w := fun z => by
      subst z
      exact A.dis _ hw _ hk'
    have b := q.resolve_left nk
    have kh := (A.all k').mpr (.inr ⟨u, hk'⟩)
    have km := H.lt k' kh
    have c := A.cnt u k' hk'
    exact lose S F (t := u) (w := k') (x := w) un km wm nk kh b (fun u' hu' => by
      have := A.fx T k' kh u' hu'
      omega) hu
  · omega
theorem Askd.take (S : Setg m n P R) (H : Hist m n h) (A : Askd m n P R h sl ws cn) {w : Nat} {ws' ws2 : List Nat} (pm : ws.Perm (w :: ws')) (c : (sl[pr P w (cn w)]? = some (-1) ∧ ws2 = ws') ∨ ∃ k', At sl (pr P w (cn w)) k' ∧ bt R (pr P w (cn w)) w k' = true ∧ ws2 = ws' ++ [k']) : Askd m n P R h (sl.set (pr P w (cn w)) (w : Int)) ws2 (bump cn w) := by
  have hw : w ∈ ws := pm.mem_iff.mpr List.mem_cons_self
  have wh := (A.all w).mpr (.inl hw)
  obtain ⟨cw, wm⟩ := A.lt S H hw
  have pn := (S.pr_at wm cw).2
  have rw_ := S.rk_pr wm cw
  obtain ⟨e0, e0n, e0f, e0a⟩ := A.room S H hw
  generalize hp : pr P w (cn w) = p at c pn rw_
  have pl : p < sl.length := by rw [A.lay.len]; exact pn
  have nd2 := pm.nodup_iff.mp A.nd
  obtain ⟨nw, nd'⟩ := List.nodup_cons.mp nd2
  have wsm : ∀ k, k ∈ ws ↔ k = w ∨ k ∈ ws' := fun k => by rw [pm.mem_iff, List.mem_cons]
  have ats : ∀ t k, At (sl.set p (w : Int)) t k ↔ (t = p ∧ k = w) ∨ (t ≠ p ∧ At sl t k) := fun t k => at_set pl
  have w2 : ∀ k, k ∈ ws2 ↔ k ∈ ws' ∨ At sl p k := fun k => by
    rcases c with ⟨f, rfl⟩ | ⟨k', a, _, rfl⟩
    · exact ⟨.inl, fun z => z.resolve_right fun a => a.ne f⟩
    · rw [List.mem_append, List.mem_singleton]
      exact ⟨fun z => z.elim .inl fun e => .inr (by rw [e]; exact a), fun z => z.elim .inl fun b => .inr (b.one a)⟩
  have nw2 : ∀ k, k ∈ ws2 → k ≠ w := fun k hk e => by
    subst e
    rcases (w2 _).mp hk with z | z
    · exact nw z
    · exact A.dis _ hw _ z
  have h2 : ∀ k, k ∈ ws2 → k ∈ h := fun k hk => (A.all k).mpr (((w2 k).mp hk).elim (fun z => .inl ((wsm k).mpr (.inr z))) fun a => .inr ⟨p, a⟩)
  have held : ∀ t, (∃ k, At sl t k) → ∃ k, At (sl.set p (w : Int)) t k := fun t ⟨k, a⟩ => taken_set pl a
  refine ⟨A.lay.set pn wm (A.dis w hw), ?_, fun k => ?_, fun k hk s a => ?_, fun s k a => ?_, fun k kh => ?_, fun k kh j lj => ?_, ⟨e0, e0n, fun k kh j lj => ?_, fun k hk j lj => ?_⟩, fun T k kh j lj k' a => ?_, fun T k kh u hu => ?_⟩
  · rcases c with ⟨_, rfl⟩ | ⟨k', a, _, rfl⟩
    · exact nd'
    · rw [List.nodup_append]
      exact ⟨nd', List.nodup_cons.mpr ⟨fun z => (by cases z), List.nodup_nil⟩, fun x hx y hy e => by
        rw [List.mem_singleton.mp hy] at e
        subst e
        exact A.dis _ ((wsm _).mpr (.inr hx)) _ a⟩
  · rw [A.all, wsm, w2]
    constructor
    · rintro ((rfl | z) | ⟨s, a⟩)
      · exact .inr ⟨p, (ats _ _).mpr (.inl ⟨rfl, rfl⟩)⟩
      · exact .inl (.inl z)
      · by_cases e : s = p
        · subst e; exact .inl (.inr a)
        · exact .inr ⟨s, (ats _ _).mpr (.inr ⟨e, a⟩)⟩
    · rintro ((z | a) | ⟨s, a⟩)
      · exact .inl (.inr z)
      · exact .inr ⟨p, a⟩
      · rcases (ats _ _).mp a with ⟨_, rfl⟩ | ⟨_, a⟩
        · exact .inl (.inl rfl)
        · exact .inr ⟨s, a⟩
  · rcases (ats _ _).mp a with ⟨_, e⟩ | ⟨ne, a⟩
    · exact nw2 k hk e
    · rcases (w2 k).mp hk with z | z
      · exact A.dis k ((wsm k).mpr (.inr z)) s a
      · exact ne (A.lay.inj _ _ _ a z)
  · rcases (ats _ _).mp a with ⟨rfl, rfl⟩ | ⟨ne, a2⟩
    · rw [bump_self, rw_]
    · rw [bump_ne (fun e => by subst e; exact A.dis _ hw _ a2)]
      exact A.cnt s k a2
  · unfold bump
    have := A.le k kh
    split <;> omega
  · by_cases e : k = w
    · subst e
      rw [bump_self] at lj
      rcases Nat.lt_or_ge j (cn k) with l | l
      · exact held _ (A.ask k kh j l)
      · rw [show j = cn k by omega, hp]
        exact ⟨k, (ats _ _).mpr (.inl ⟨rfl, rfl⟩)⟩
    · rw [bump_ne e] at lj
      exact held _ (A.ask k kh j lj)
  · by_cases e : k = w
    · subst e
      rw [bump_self] at lj
      exact e0a k kh j (by omega)
    · rw [bump_ne e] at lj
      exact e0a k kh j (by omega)
  · rw [bump_ne (nw2 k hk)] at lj
    exact e0a k (h2 k hk) j lj
  · rcases (ats _ _).mp a with ⟨e, rfl⟩ | ⟨ne, a2⟩
    · by_cases e2 : k' = k
      · exact .inl e2
      · right
        rw [bump_ne (fun z => e2 z.symm)] at lj
        obtain ⟨x, hx⟩ := A.ask k kh j lj
        have q := A.st T k kh j lj x hx
        rw [e] at hx q ⊢
        rcases c with ⟨f, _⟩ | ⟨y, ay, by_, _⟩
        · exact absurd f hx.ne
        · have xy := hx.one ay
          subst xy
          rcases q with rfl | q
          · exact by_
          · have xm := (A.lay.key hx).1
            exact T p _ _ _ pn wm xm (H.lt k kh) by_ q
    · by_cases e : k = w
      · subst e
        rw [bump_self] at lj
        rcases Nat.lt_or_ge j (cn k) with l | l
        · exact A.st T k kh j l k' a2
        · exact absurd (by rw [show j = cn k by omega, hp]) ne
      · rw [bump_ne e] at lj
        exact A.st T k kh j lj k' a2
  · by_cases e : k = w
    · subst e
      rw [bump_self]
      exact A.more S H hw T u hu
    · rw [bump_ne e]
      exact A.fx T k kh u hu
theorem Askd.done (S : Setg m n P R) (H : Hist m n h) (T : Trn m n R) (A : Askd m n P R h sl [] cn) : sl = layF P R h := by
  have G := A.good S
  have hd : ∀ k, k ∈ h ↔ ∃ s, At sl s k := fun k => by
    rw [A.all]
    exact ⟨fun z => z.resolve_left fun y => (by cases y), .inr⟩
  have st : Stb P R sl := fun s k a j lj k' a' => by
    have kh := (hd k).mpr ⟨s, a⟩
    refine (A.st T k kh j (by rw [A.cnt s k a]; omega) k' a').resolve_left fun e => ?_
    subst e
    have z := A.lay.inj _ _ _ a' a
    obtain ⟨km, sn⟩ := A.lay.key a
    have r := (S.rk_at km sn).2.1
    have q := S.rk_pr km (i := j) (by omega)
    rw [z] at q
    omega
  have F : Fix m n P R (· ∈ h) sl := ⟨G, fun k kh => (hd k).mp kh, st⟩
  have bl := layF_below S F H (fun k hk => hk)
  obtain ⟨G2, K2⟩ := layF_good S H
  have same : ∀ s k, At sl s k → At (layF P R h) s k := fun s k a => by
    have kh := (hd k).mpr ⟨s, a⟩
    obtain ⟨u, hu⟩ := (K2 k).mpr kh
    have l1 := (bl u k hu).2 s a
    have l2 := A.fx T k kh u hu
    rw [A.cnt s k a] at l2
    obtain ⟨km, sn⟩ := A.lay.key a
    have un := (G2.lay.key hu).2
    have := S.rk_inj km sn un (by omega)
    rw [this]
    exact hu
  refine List.ext_getElem? fun i => ?_
  rcases Nat.lt_or_ge i n with l | l
  · rcases A.lay.either l with e | ⟨k, a⟩
    · rcases G2.lay.either l with e2 | ⟨k, a⟩
      · rw [e, e2]
      · obtain ⟨s, b⟩ := (hd k).mp ((K2 k).mp ⟨i, a⟩)
        have := G2.lay.inj _ _ _ (same s k b) a
        subst this
        exact absurd e b.ne
    · have b := same i k a
      unfold At at a b
      rw [a, b]
  · rw [List.getElem?_eq_none (by rw [A.lay.len]; exact l), List.getElem?_eq_none (by rw [G2.lay.len]; exact l)]
end
def left (n : Nat) (cn : Nat → Nat) (h : List Nat) : Nat := (h.map fun k => n - cn k).sum
end DL
namespace DL
open PySem PySem.Spec PyProof.Rows L2 LamX PySem.W SL
end DL
namespace DL
open PySem PySem.Spec PyProof.Rows L2 LamX PySem.W SL
theorem valD_put {κ : Type} [DecidableEq κ] (kvs : List (κ × D)) (k k' : κ) (v : D) : valD (putD kvs k v) k' = if k = k' then some v else valD kvs k' := by
  unfold putD
  by_cases c : (kvs.any fun kv => decide (kv.1 = k)) = true
  · rw [if_pos c]
    unfold valD
    rw [List.find?_map]
    have e : ((fun kv : κ × D => decide (kv.1 = k')) ∘ fun kv : κ × D => if kv.1 = k then (kv.1, v) else kv) = fun kv => decide (kv.1 = k') := by
      funext kv
      show decide ((if kv.1 = k then (kv.1, v) else kv).1 = k') = _
      split <;> rfl
    rw [e, Option.map_map]
    cases f : kvs.find? (fun kv => decide (kv.1 = k')) with
    | none =>
      have ne : k ≠ k' := fun z => by
        obtain ⟨kv, h1, h2⟩ := List.any_eq_true.mp c
        have := List.find?_eq_none.mp f kv h1
        rw [← z] at this
        exact this h2
      rw [if_neg ne]
      rfl
    | some kv =>
      have h1 : kv.1 = k' := of_decide_eq_true (List.find?_some (p := fun kv : κ × D => decide (kv.1 = k')) f)
      show some ((if kv.1 = k then (kv.1, v) else kv).2) = _
      by_cases z : k = k'
      · rw [if_pos z, if_pos (by rw [h1, z])]
      · rw [if_neg z, if_neg (fun q => z (by rw [← q, h1]))]
        rfl
  · rw [if_neg c]
    unfold valD
    rw [List.find?_append]
    by_cases z : k = k'
    · subst z
      have f : kvs.find? (fun kv => decide (kv.1 = k)) = none := List.find?_eq_none.mpr fun kv h1 h2 => c (List.any_eq_true.mpr ⟨kv, h1, h2⟩)
      rw [f, if_pos rfl]
      simp [List.find?_cons]
    · rw [if_neg z]
      cases f : kvs.find? (fun kv => decide (kv.1 = k')) with
      | some kv => rfl
      | none => simp [List.find?_cons, z]
end DL
namespace DL
open PySem PySem.Spec PyProof.Rows L2 LamX PySem.W SL
section
variable {m n : Nat} {hs : List Nat} {P : List (List Int)} {R : List (List (List Int))} {h : List Nat} {sl : List Int}
end
end DL
namespace DL
open PySem PySem.Spec PyProof.Rows L2 LamX PySem.W SL
end DL
namespace DL
open PySem PySem.Spec PyProof.Rows L2 LamX PySem.W SL
section
variable {st : DSt} {x y : O} {rs : List (List Int)} {u : Nat} {r : List Int}
end
end DL
namespace DL
open PySem PySem.Spec PyProof.Rows L2 LamX PySem.W SL
end DL
namespace DL
open PySem PySem.Spec PyProof.Rows L2 LamX PySem.W SL
end DL
namespace DL
open PySem PySem.Spec PyProof.Rows L2 LamX PySem.W SL
end DL
--ELX
namespace DL
open PySem PySem.Spec PyProof.Rows L2 LamX PySem.W SL
end DL
--ELX
namespace DL
open PySem PySem.Spec PyProof.Rows L2 LamX PySem.W SL
theorem perm_unmap {α β : Type} {f : α → β} (g : β → α) {xs : List α} {out : List β} (h : ∀ x ∈ xs, g (f x) = x) (p : out.Perm (xs.map f)) : ∃ ys : List α, ys.Perm xs ∧ out = ys.map f := by
  refine ⟨out.map g, ?_, ?_⟩
  · have z := p.map g
    rw [List.map_map] at z
    have e : xs.map (g ∘ f) = xs := by
      conv => rhs; rw [← List.map_id xs]
      exact List.map_congr_left fun x hx => h x hx
    rw [e] at z
    exact z
  · rw [List.map_map]
    conv => lhs; rw [← List.map_id out]
    refine List.map_congr_left fun d hd => ?_
    obtain ⟨x, hx, rfl⟩ := List.mem_map.mp (p.mem_iff.mp hd)
    show f x = f (g (f x))
    rw [h x hx]
theorem nat_list : ∀ {xs : List Int}, (∀ x ∈ xs, 0 ≤ x) → ∃ hs : List Nat, xs = hs.map fun k : Nat => (k : Int)
  | [], _ => ⟨[], rfl⟩
  | x :: xs, h => by
    obtain ⟨hs, e⟩ := nat_list (xs := xs) fun y hy => h y (List.mem_cons_of_mem _ hy)
    have := h x List.mem_cons_self
    exact ⟨x.toNat :: hs, by rw [List.map_cons, ← e]; congr 1; omega⟩
end DL
--ELX
namespace DL
open PySem PySem.Spec PyProof.Rows L2 LamX PySem.W SL
section
variable {m n : Nat} {P : List (List Int)} {R : List (List (List Int))} {sl : List Int}
def WnY (P : List (List Int)) (R : List (List (List Int))) (sl : List Int) (s c k t : Nat) : Prop := bt R s c k = true ∧ Wants P sl s k t
def NxY (P : List (List Int)) (R : List (List (List Int))) (sl : List Int) (s v : Nat) : Prop := ∃ c t, At sl s c ∧ WnY P R sl s c v t ∧ ∀ k u, WnY P R sl s c k u → k = v ∨ bt R s v k = true
theorem NxY.one (S : Setg m n P R) (L : Lay m n sl) {s v w : Nat} (h1 : NxY P R sl s v) (h2 : NxY P R sl s w) : v = w := by
  obtain ⟨c, t, a1, b1, d1⟩ := h1
  obtain ⟨c2, t2, a2, b2, d2⟩ := h2
  have := a1.one a2
  subst this
  have sn := (L.key a1).2
  have k1 := L.key b1.2.1
  have k2 := L.key b2.2.1
  apply Classical.byContradiction
  intro ne
  have w1 := (d1 w t2 b2).resolve_left (fun z => ne z.symm)
  have w2 := (d2 v t b1).resolve_left ne
  have := S.bt_not sn k1.1 k2.1 ne
  rw [w1, w2] at this
  cases this
end
end DL
namespace DL
def itR (f : Nat → Option Nat) : Nat → Nat → Option Nat
  | 0, s => some s
  | k + 1, s => (itR f k s).bind f
theorem itR_succ {f : Nat → Option Nat} {k s x : Nat} (h : itR f k s = some x) : itR f (k + 1) s = f x := by
  show (itR f k s).bind f = _
  rw [h]; rfl
theorem itR_add {f : Nat → Option Nat} : ∀ {j k s x : Nat}, itR f k s = some x → itR f (k + j) s = itR f j x
  | 0, k, s, x, h => h
  | j + 1, k, s, x, h => by
    show (itR f (k + j) s).bind f = (itR f j x).bind f
    rw [itR_add h]
theorem itR_lt {f : Nat → Option Nat} {k s x : Nat} (h : itR f (k + 1) s = some x) : ∃ y, itR f k s = some y ∧ f y = some x := by
  have h' : (itR f k s).bind f = some x := h
  cases q : itR f k s with
  | none => rw [q] at h'; cases h'
  | some y => rw [q] at h'; exact ⟨y, rfl, h'⟩
structure IsRg (f : Nat → Option Nat) (s L : Nat) : Prop where
  pos : 0 < L
  back : itR f L s = some s
  up : ∀ i, 0 < i → i < L → ∃ x, itR f i s = some x ∧ s < x
theorem IsRg.one {f : Nat → Option Nat} {s L M : Nat} (h1 : IsRg f s L) (h2 : IsRg f s M) : L = M := by
  rcases Nat.lt_trichotomy L M with q | q | q
  · obtain ⟨x, e, lt⟩ := h2.up L h1.pos q
    rw [h1.back] at e
    cases e
    omega
  · exact q
  · obtain ⟨x, e, lt⟩ := h1.up M h2.pos q
    rw [h2.back] at e
    cases e
    omega
def rgL (f : Nat → Option Nat) (s L : Nat) : List Nat := (List.range L).map fun i => (itR f i s).getD 0
open Classical in
noncomputable def rgA (f : Nat → Option Nat) (s : Nat) : Option (List Nat) := if h : ∃ L, IsRg f s L then some (rgL f s h.choose) else none
theorem rgA_of {f : Nat → Option Nat} {s L : Nat} (h : IsRg f s L) : rgA f s = some (rgL f s L) := by
  unfold rgA
  have ex : ∃ L, IsRg f s L := ⟨L, h⟩
  rw [dif_pos ex, IsRg.one ex.choose_spec h]
theorem rgA_no {f : Nat → Option Nat} {s : Nat} (h : ∀ L, ¬ IsRg f s L) : rgA f s = none := by
  unfold rgA
  rw [dif_neg (fun ⟨L, z⟩ => h L z)]
theorem rgA_some {f : Nat → Option Nat} {s : Nat} {r : List Nat} (h : rgA f s = some r) : ∃ L, IsRg f s L ∧ r = rgL f s L := by
  by_cases ex : ∃ L, IsRg f s L
  · obtain ⟨L, z⟩ := ex
    rw [rgA_of z] at h
    cases h
    exact ⟨L, z, rfl⟩
  · rw [rgA_no (fun L z => ex ⟨L, z⟩)] at h
    cases h
structure Wlk (f : Nat → Option Nat) (s : Nat) (row : List Nat) (h : Nat) : Prop where
  at_ : ∀ i x, row[i]? = some x → itR f i s = some x
  nx : itR f row.length s = some h
  nd : row.Nodup
  hd : row[0]? = some s
theorem Wlk.start {f : Nat → Option Nat} {s h : Nat} (e : f s = some h) : Wlk f s [s] h := by
  refine ⟨fun i x q => ?_, e, by simp, rfl⟩
  cases i with
  | zero => cases q; rfl
  | succ i => cases q
theorem Wlk.on {f : Nat → Option Nat} {s h g : Nat} {row : List Nat} (w : Wlk f s row h) (no : h ∉ row) (e : f h = some g) : Wlk f s (row ++ [h]) g := by
  refine ⟨fun i x q => ?_, ?_, ?_, ?_⟩
  · rcases Nat.lt_or_ge i row.length with l | l
    · rw [List.getElem?_append_left l] at q
      exact w.at_ i x q
    · rw [List.getElem?_append_right l] at q
      have : i = row.length := by
        have := (List.getElem?_eq_some_iff.mp q).1
        simp at this
        omega
      subst this
      rw [Nat.sub_self] at q
      cases q
      exact w.nx
  · rw [List.length_append]
    exact (itR_succ w.nx).trans e
  · rw [List.nodup_append]
    exact ⟨w.nd, by simp, fun a ha b hb z => no (by rw [← List.mem_singleton.mp hb, ← z]; exact ha)⟩
  · have l : 0 < row.length := (List.getElem?_eq_some_iff.mp w.hd).1
    rw [List.getElem?_append_left l]
    exact w.hd
theorem Wlk.rgL {f : Nat → Option Nat} {s h : Nat} {row : List Nat} (w : Wlk f s row h) : DL.rgL f s row.length = row := by
  refine List.ext_getElem? fun i => ?_
  unfold DL.rgL
  rw [List.getElem?_map]
  rcases Nat.lt_or_ge i row.length with q | q
  · rw [List.getElem?_range q, List.getElem?_eq_getElem q]
    show some ((itR f i s).getD 0) = _
    rw [w.at_ i _ (List.getElem?_eq_getElem q)]
    rfl
  · rw [List.getElem?_eq_none q, List.getElem?_eq_none (by simpa using q)]
    rfl
theorem Wlk.ring {f : Nat → Option Nat} {s : Nat} {row : List Nat} (w : Wlk f s row s) (up : ∀ x ∈ row, s ≤ x) : IsRg f s row.length := by
  have l : 0 < row.length := (List.getElem?_eq_some_iff.mp w.hd).1
  refine ⟨l, w.nx, fun i i0 li => ⟨row[i], w.at_ i _ (List.getElem?_eq_getElem li), ?_⟩⟩
  have a := up row[i] (List.getElem_mem li)
  have ne : s ≠ row[i] := fun e => by
    have h0 : row[0] = s := by
      have := w.hd
      rw [List.getElem?_eq_getElem l] at this
      exact Option.some.inj this
    have z : row[0] = row[i] := h0.trans e
    have := (List.getElem_inj w.nd).mp z
    omega
  omega
theorem Wlk.along {f : Nat → Option Nat} {s h L : Nat} {row : List Nat} (w : Wlk f s row h) (r : IsRg f s L) : row.length ≤ L ∧ (row.length = L → h = s) ∧ (row.length < L → s < h ∧ h ∉ row ∧ ∃ g, f h = some g) ∧ ∀ x ∈ row, s ≤ x := by
  have l0 : 0 < row.length := (List.getElem?_eq_some_iff.mp w.hd).1
  have le : row.length ≤ L := by
    rcases Nat.lt_or_ge L row.length with q | q
    · have h1 := w.at_ L _ (List.getElem?_eq_getElem q)
      rw [r.back] at h1
      have h0 : row[0] = s := by
        have := w.hd
        rw [List.getElem?_eq_getElem l0] at this
        exact Option.some.inj this
      have z : row[0] = row[L] := h0.trans (Option.some.inj h1)
      have := (List.getElem_inj w.nd).mp z
      have := r.pos
      omega
    · exact q
  have all : ∀ i x, row[i]? = some x → 0 < i → s < x := fun i x e i0 => by
    have li := (List.getElem?_eq_some_iff.mp e).1
    obtain ⟨y, e1, lt⟩ := r.up i i0 (by omega)
    rw [w.at_ i x e] at e1
    cases e1
    exact lt
  refine ⟨le, fun e => ?_, fun lt => ?_, fun x hx => ?_⟩
  · have := w.nx
    rw [e, r.back] at this
    exact (Option.some.inj this).symm
  · obtain ⟨y, e1, lt2⟩ := r.up row.length l0 lt
    rw [w.nx] at e1
    cases e1
    refine ⟨lt2, fun hm => ?_, ?_⟩
    · obtain ⟨i, hi⟩ := List.mem_iff_getElem?.mp hm
      have li := (List.getElem?_eq_some_iff.mp hi).1
      have a := w.at_ i _ hi
      -- from i on the same as from row.length on: back at s too early
      have back : itR f (L - row.length + i) s = some s := by
        have z := itR_add (f := f) (j := L - row.length) a
        have z2 := itR_add (f := f) (j := L - row.length) w.nx
        rw [show row.length + (L - row.length) = L by omega, r.back] at z2
        rw [Nat.add_comm, z, ← z2]
      rcases Nat.eq_zero_or_pos (L - row.length + i) with q | q
      · omega
      · obtain ⟨x, e, lt3⟩ := r.up _ q (by omega)
        rw [back] at e
        cases e
        omega
    · rcases Nat.lt_or_ge (row.length + 1) L with q | q
      · obtain ⟨x, e, _⟩ := r.up (row.length + 1) (by omega) q
        rw [itR_succ w.nx] at e
        exact ⟨x, e⟩
      · have e : L = row.length + 1 := by omega
        have := r.back
        rw [e, itR_succ w.nx] at this
        exact ⟨s, this⟩
  · obtain ⟨i, hi⟩ := List.mem_iff_getElem?.mp hx
    rcases Nat.eq_zero_or_pos i with q | q
    · subst q
      rw [w.hd] at hi
      cases hi
      exact Nat.le_refl _
    · exact Nat.le_of_lt (all i x hi q)
theorem Wlk.no {f : Nat → Option Nat} {s h : Nat} {row : List Nat} (w : Wlk f s row h) (stop : ¬ (s < h ∧ h ∉ row ∧ ∃ g, f h = some g)) (ne : h ≠ s) : rgA f s = none := by
  refine rgA_no fun L r => ?_
  obtain ⟨a, b, c, d⟩ := w.along r
  rcases Nat.lt_or_ge row.length L with q | q
  · exact stop (c q)
  · exact ne (b (by omega))
theorem Wlk.yes {f : Nat → Option Nat} {s : Nat} {row : List Nat} (w : Wlk f s row s) (up : ∀ x ∈ row, s ≤ x) : rgA f s = some row := by
  rw [rgA_of (w.ring up), w.rgL]
theorem rg_row {f : Nat → Option Nat} {s : Nat} {r : List Nat} (h : rgA f s = some r) : Wlk f s r s ∧ ∀ x ∈ r, s ≤ x := by
  obtain ⟨L, z, rfl⟩ := rgA_some h
  have dfn : ∀ i, i < L → ∃ x, itR f i s = some x := fun i li => by
    rcases Nat.eq_zero_or_pos i with q | q
    · subst q; exact ⟨s, rfl⟩
    · obtain ⟨x, e, _⟩ := z.up i q li
      exact ⟨x, e⟩
  have at_ : ∀ i x, (rgL f s L)[i]? = some x → itR f i s = some x := fun i x e => by
    unfold rgL at e
    rw [List.getElem?_map] at e
    obtain ⟨j, ej, e2⟩ := Option.map_eq_some_iff.mp e
    have lj : i < L := by
      have := (List.getElem?_eq_some_iff.mp ej).1
      simpa using this
    rw [List.getElem?_range lj] at ej
    cases ej
    obtain ⟨y, ey⟩ := dfn i lj
    rw [ey] at e2
    rw [ey, ← e2]
    rfl
  have len : (rgL f s L).length = L := by simp [rgL]
  have inj : ∀ i j, i < j → j < L → itR f i s ≠ itR f j s := fun i j ij jl e => by
    obtain ⟨x, ex⟩ := dfn i (by omega)
    have ej : itR f j s = some x := e ▸ ex
    have z1 := itR_add (f := f) (j := L - j) ex
    have z2 := itR_add (f := f) (j := L - j) ej
    rw [show j + (L - j) = L by omega, z.back] at z2
    have bk : itR f (i + (L - j)) s = some s := z1.trans z2.symm
    obtain ⟨y, ey, lt⟩ := z.up (i + (L - j)) (by omega) (by omega)
    rw [bk] at ey
    cases ey
    omega
  refine ⟨⟨at_, by rw [len]; exact z.back, ?_, ?_⟩, fun x hx => ?_⟩
  · rw [List.nodup_iff_pairwise_ne, List.pairwise_iff_getElem]
    intro i j hi hj ij e
    refine inj i j ij (by omega) ?_
    rw [at_ i _ (List.getElem?_eq_getElem hi), at_ j _ (List.getElem?_eq_getElem hj), e]
  · have := z.pos
    unfold rgL
    rw [List.getElem?_map, List.getElem?_range (by omega)]
    rfl
  · obtain ⟨i, hi⟩ := List.mem_iff_getElem?.mp hx
    rcases Nat.eq_zero_or_pos i with q | q
    · subst q
      have := at_ 0 x hi
      cases this
      exact Nat.le_refl _
    · have li := (List.getElem?_eq_some_iff.mp hi).1
      obtain ⟨y, ey, lt⟩ := z.up i q (by omega)
      rw [at_ i x hi] at ey
      cases ey
      omega
end DL
namespace DL
open PySem PySem.Spec PyProof.Rows L2 LamX PySem.W SL
def updN {α : Type} (f : Nat → α) (s : Nat) (x : α) : Nat → α := fun t => if t = s then x else f t
theorem updN_same {α : Type} {f : Nat → α} {s : Nat} {x : α} : updN f s x s = x := if_pos rfl
theorem updN_ne {α : Type} {f : Nat → α} {s t : Nat} {x : α} (h : t ≠ s) : updN f s x t = f t := if_neg h
structure WI (n : Nat) (P : List (List Int)) (q0 q : Nat → List Nat) (w : List Nat) (o : Nat → Option Nat) : Prop where
  pre : ∀ s, s < n → ∃ t, q s ++ t = q0 s
  hit : ∀ s, s < n → ∀ k, k ∈ q0 s → k ∉ q s → ∃ u, o k = some u ∧ rk P k u ≤ rk P k s
  own : ∀ k u, o k = some u → u < n ∧ u ∉ w ∧ ∃ t, q u ++ k :: t = q0 u
  nd : w.Nodup
  lt : ∀ s ∈ w, s < n
  all : ∀ s, s < n → s ∈ w ∨ (∃ k, o k = some s) ∨ q s = []
section
variable {n : Nat} {P : List (List Int)} {q0 q : Nat → List Nat} {w : List Nat} {o : Nat → Option Nat}
theorem WI.inj (W : WI n P q0 q w o) {k k2 u : Nat} (h : o k = some u) (h2 : o k2 = some u) : k = k2 := by
  obtain ⟨_, _, t, e⟩ := W.own k u h
  obtain ⟨_, _, t2, e2⟩ := W.own k2 u h2
  rw [← e] at e2
  have z := List.append_cancel_left e2
  injection z with z1 z2
  exact z1.symm
theorem WI.start (q0 : Nat → List Nat) (n : Nat) (P : List (List Int)) {w : List Nat} (hw : ∀ s, s ∈ w ↔ s < n) (nd : w.Nodup) : WI n P q0 q0 w fun _ => none :=
  ⟨fun s hs => ⟨[], List.append_nil _⟩, fun s hs k hk no => absurd hk no, fun k u h => (by cases h), nd, fun s hs => (hw s).mp hs, fun s hs => .inl ((hw s).mpr hs)⟩
theorem WI.sl (W : WI n P q0 q (w ++ [s]) o) : s < n ∧ s ∉ w ∧ ∀ k, o k ≠ some s := by
  have nd := W.nd
  rw [List.nodup_append] at nd
  refine ⟨W.lt s (by simp), fun z => nd.2.2 s z s (by simp) rfl, fun k h => (W.own k s h).2.1 (by simp)⟩
theorem WI.pre_ (W : WI n P q0 q (w ++ [s]) o) {r : List Nat} {k : Nat} (e : q s = r ++ [k]) : ∀ t, t < n → ∃ z, updN q s r t ++ z = q0 t := fun t ht => by
  by_cases h : t = s
  · subst h
    obtain ⟨z, ez⟩ := W.pre t ht
    rw [updN_same]
    exact ⟨k :: z, by rw [← ez, e]; simp⟩
  · rw [updN_ne h]
    exact W.pre t ht
theorem WI.hit_ (W : WI n P q0 q (w ++ [s]) o) {r : List Nat} {k : Nat} (e : q s = r ++ [k]) {t x : Nat} (ht : t < n) (hx : x ∈ q0 t) (no : x ∉ updN q s r t) : (t = s ∧ x = k) ∨ ∃ u, o x = some u ∧ rk P x u ≤ rk P x t := by
  by_cases h : t = s
  · subst h
    rw [updN_same] at no
    by_cases ek : x = k
    · exact .inl ⟨rfl, ek⟩
    · refine .inr (W.hit t ht x hx fun z => ?_)
      rw [e] at z
      rcases List.mem_append.mp z with z | z
      · exact no z
      · exact ek (List.mem_singleton.mp z)
  · rw [updN_ne h] at no
    exact .inr (W.hit t ht x hx no)
theorem WI.take (W : WI n P q0 q (w ++ [s]) o) {r : List Nat} {k : Nat} (e : q s = r ++ [k]) (ok : o k = none) : WI n P q0 (updN q s r) w (updN o k (some s)) := by
  obtain ⟨sn, sw, so⟩ := W.sl
  have nd := W.nd
  rw [List.nodup_append] at nd
  refine ⟨W.pre_ e, fun t ht x hx no => ?_, fun x u h => ?_, nd.1, fun t ht => W.lt t (List.mem_append_left _ ht), fun t ht => ?_⟩
  · by_cases ek : x = k
    · subst ek
      rw [updN_same]
      rcases W.hit_ e ht hx no with ⟨rfl, _⟩ | ⟨u, hu, _⟩
      · exact ⟨_, rfl, Nat.le_refl _⟩
      · rw [ok] at hu; cases hu
    · rw [updN_ne ek]
      rcases W.hit_ e ht hx no with ⟨_, z⟩ | z
      · exact absurd z ek
      · exact z
  · by_cases ek : x = k
    · subst ek
      rw [updN_same] at h
      cases h
      obtain ⟨z, ez⟩ := W.pre s sn
      exact ⟨sn, sw, z, by rw [updN_same, ← ez, e]; simp⟩
    · rw [updN_ne ek] at h
      obtain ⟨a, b, c⟩ := W.own x u h
      have us : u ≠ s := fun z => by subst z; exact so x h
      exact ⟨a, fun z => b (List.mem_append_left _ z), by rw [updN_ne us]; exact c⟩
  · by_cases h : t = s
    · exact .inr (.inl ⟨k, by rw [updN_same, h]⟩)
    · rw [updN_ne h]
      rcases W.all t ht with z | ⟨x, hx⟩ | z
      · rcases List.mem_append.mp z with z | z
        · exact .inl z
        · exact absurd (List.mem_singleton.mp z) h
      · exact .inr (.inl ⟨x, by rw [updN_ne (fun z => by subst z; rw [ok] at hx; cases hx)]; exact hx⟩)
      · exact .inr (.inr z)
theorem WI.swap (W : WI n P q0 q (w ++ [s]) o) {r : List Nat} {k u : Nat} (e : q s = r ++ [k]) (ok : o k = some u) (lt : rk P k s < rk P k u) : WI n P q0 (updN q s r) (w ++ [u]) (updN o k (some s)) := by
  obtain ⟨sn, sw, so⟩ := W.sl
  obtain ⟨un, uw, _⟩ := W.own k u ok
  have us : u ≠ s := fun z => uw (by rw [z]; simp)
  have nd := W.nd
  rw [List.nodup_append] at nd
  refine ⟨W.pre_ e, fun t ht x hx no => ?_, fun x v h => ?_, ?_, fun t ht => ?_, fun t ht => ?_⟩
  · by_cases ek : x = k
    · subst ek
      rw [updN_same]
      rcases W.hit_ e ht hx no with ⟨rfl, _⟩ | ⟨v, hv, l⟩
      · exact ⟨_, rfl, Nat.le_refl _⟩
      · rw [ok] at hv; cases hv
        exact ⟨s, rfl, by omega⟩
    · rw [updN_ne ek]
      rcases W.hit_ e ht hx no with ⟨_, z⟩ | z
      · exact absurd z ek
      · exact z
  · by_cases ek : x = k
    · subst ek
      rw [updN_same] at h
      cases h
      obtain ⟨z, ez⟩ := W.pre s sn
      refine ⟨sn, fun hm => ?_, z, by rw [updN_same, ← ez, e]; simp⟩
      rcases List.mem_append.mp hm with y | y
      · exact sw y
      · exact us (List.mem_singleton.mp y).symm
    · rw [updN_ne ek] at h
      obtain ⟨a, b, c⟩ := W.own x v h
      have vs : v ≠ s := fun z => by subst z; exact so x h
      refine ⟨a, fun hm => ?_, by rw [updN_ne vs]; exact c⟩
      rcases List.mem_append.mp hm with y | y
      · exact b (List.mem_append_left _ y)
      · rw [List.mem_singleton.mp y] at h
        exact ek (W.inj h ok)
  · rw [List.nodup_append]
    exact ⟨nd.1, by simp, fun a ha b hb z => uw (by rw [← List.mem_singleton.mp hb, ← z]; exact List.mem_append_left _ ha)⟩
  · rcases List.mem_append.mp ht with y | y
    · exact W.lt t (List.mem_append_left _ y)
    · rw [List.mem_singleton.mp y]; exact un
  · by_cases h : t = s
    · exact .inr (.inl ⟨k, by rw [updN_same, h]⟩)
    · rw [updN_ne h]
      rcases W.all t ht with z | ⟨x, hx⟩ | z
      · rcases List.mem_append.mp z with z | z
        · exact .inl (List.mem_append_left _ z)
        · exact absurd (List.mem_singleton.mp z) h
      · by_cases ek : x = k
        · subst ek
          rw [ok] at hx
          cases hx
          exact .inl (by simp)
        · exact .inr (.inl ⟨x, by rw [updN_ne ek]; exact hx⟩)
      · exact .inr (.inr z)
theorem WI.keep (W : WI n P q0 q (w ++ [s]) o) {r : List Nat} {k u : Nat} (e : q s = r ++ [k]) (ok : o k = some u) (lt : rk P k u ≤ rk P k s) : WI n P q0 (updN q s r) (w ++ [s]) o := by
  obtain ⟨sn, sw, so⟩ := W.sl
  refine ⟨W.pre_ e, fun t ht x hx no => ?_, fun x v h => ?_, W.nd, W.lt, fun t ht => ?_⟩
  · rcases W.hit_ e ht hx no with ⟨rfl, rfl⟩ | z
    · exact ⟨u, ok, lt⟩
    · exact z
  · obtain ⟨a, b, c⟩ := W.own x v h
    have vs : v ≠ s := fun z => by subst z; exact so x h
    exact ⟨a, b, by rw [updN_ne vs]; exact c⟩
  · by_cases h : t = s
    · exact .inl (by rw [h]; simp)
    · rw [updN_ne h]
      exact W.all t ht
end
section
variable {m n : Nat} {P : List (List Int)} {R : List (List (List Int))} {q0 q : Nat → List Nat} {o : Nat → Option Nat} {W : List Int} {h : List Nat}
theorem WI.lay (I : WI n P q0 q [] o) (hm : ∀ s, s < n → ∀ k, k ∈ q0 s → k < m) (lw : W.length = n) (at_ : ∀ s k, At W s k ↔ o k = some s) (neg : ∀ x ∈ W, -1 ≤ x) : Lay m n W := by
  have key : ∀ s k, At W s k → k < m := fun s k a => by
    obtain ⟨sn, _, t, e⟩ := I.own k s ((at_ s k).mp a)
    exact hm s sn k (by rw [← e]; simp)
  refine ⟨lw, fun x hx => ⟨neg x hx, ?_⟩, fun s t k h1 h2 => ?_⟩
  · rcases Int.lt_or_le x 0 with z | z
    · omega
    · obtain ⟨s, hs⟩ := List.mem_iff_getElem?.mp hx
      have := key s x.toNat (by unfold At; rw [hs]; congr 1; omega)
      omega
  · have e1 := (at_ s k).mp h1
    have e2 := (at_ t k).mp h2
    rw [e1] at e2
    exact Option.some.inj e2
end
end DL
--ELX
namespace DL
open PySem PySem.Spec PyProof.Rows L2 LamX PySem.W SL
structure OwD (kvs : List (Key × D)) (ks : List Nat) (o : Nat → Option Nat) : Prop where
  keys : kvs.map (·.1) = ks.map fun k : Nat => (Sum.inl (k : Int) : Key)
  val : ∀ k : Nat, valD kvs (.inl (k : Int)) = (o k).map fun s : Nat => D.int (s : Nat)
  some_ : ∀ k ∈ ks, ∃ s, o k = some s
  mem : ∀ k s, o k = some s → k ∈ ks
theorem OwD.put {kvs : List (Key × D)} {ks : List Nat} {o : Nat → Option Nat} (h : OwD kvs ks o) (k s : Nat) : ∃ ks', OwD (putD kvs (.inl (k : Int)) (.int (s : Nat))) ks' (updN o k (some s)) := by
  have val : ∀ j : Nat, valD (putD kvs (.inl (k : Int)) (.int (s : Nat))) (.inl (j : Int)) = (updN o k (some s) j).map fun s : Nat => D.int (s : Nat) := fun j => by
    rw [valD_put]
    by_cases e : j = k
    · subst e; rw [if_pos rfl, updN_same]; rfl
    · rw [if_neg (fun z => e (by injection z with z; omega)), updN_ne e]; exact h.val j
  unfold putD at val ⊢
  by_cases c : (kvs.any fun kv => decide (kv.1 = (Sum.inl (k : Int) : Key))) = true
  · rw [if_pos c] at val ⊢
    refine ⟨ks, ?_, val, fun j hj => ?_, fun j t e => ?_⟩
    · rw [← h.keys, List.map_map]
      exact List.map_congr_left fun kv _ => by
        show (if kv.1 = Sum.inl (k : Int) then (kv.1, D.int (s : Nat)) else kv).1 = kv.1
        split <;> rfl
    · by_cases e : j = k
      · exact ⟨s, by rw [e, updN_same]⟩
      · rw [updN_ne e]; exact h.some_ j hj
    · by_cases e2 : j = k
      · subst e2
        obtain ⟨kv, hkv, ek⟩ := List.any_eq_true.mp c
        have z : kv.1 ∈ kvs.map (·.1) := List.mem_map.mpr ⟨kv, hkv, rfl⟩
        rw [h.keys, of_decide_eq_true ek] at z
        obtain ⟨i, hi, ei⟩ := List.mem_map.mp z
        injection ei with ei
        have : i = j := by omega
        subst this
        exact hi
      · rw [updN_ne e2] at e; exact h.mem j t e
  · rw [if_neg c] at val ⊢
    refine ⟨ks ++ [k], ?_, val, fun j hj => ?_, fun j t e => ?_⟩
    · rw [List.map_append, List.map_append, h.keys]; rfl
    · by_cases e : j = k
      · exact ⟨s, by rw [e, updN_same]⟩
      · rw [updN_ne e]
        rcases List.mem_append.mp hj with z | z
        · exact h.some_ j z
        · exact absurd (List.mem_singleton.mp z) e
    · by_cases e2 : j = k
      · subst e2; simp
      · rw [updN_ne e2] at e
        exact List.mem_append_left _ (h.mem j t e)
theorem OwD.nil : OwD [] [] fun _ => none := ⟨rfl, fun _ => rfl, fun k h => (by cases h), fun k s h => (by cases h)⟩
end DL
--ELX
namespace DL
open PySem PySem.Spec PyProof.Rows L2 LamX PySem.W SL
section
variable {st : DSt} {kvs : List (Key × D)} {w : List Nat} {n c : Nat} {q : Nat → List Nat}
end
theorem WI.few {n : Nat} {P : List (List Int)} {q0 q : Nat → List Nat} {w : List Nat} {s : Nat} {o : Nat → Option Nat} (I : WI n P q0 q (w ++ [s]) o) : w.length ≤ n := by
  have z := sub_len (xs := w.map fun k : Nat => (k : Int)) (ys := DL.R n) (List.pairwise_map.mpr (((List.nodup_append.mp I.nd).1).imp fun {a b} ne e => ne (by omega))) (fun x hx => by
    obtain ⟨y, hy, rfl⟩ := List.mem_map.mp hx
    have := I.lt y (List.mem_append_left _ hy)
    rw [R_mem]
    omega)
  rw [List.length_map, R_length] at z
  exact z
end DL
--ELX
namespace DL
open PySem PySem.Spec PyProof.Rows L2 LamX PySem.W SL
open Classical in
noncomputable def toY (P : List (List Int)) (R : List (List (List Int))) (sl : List Int) (s : Nat) : Option Nat := if h : ∃ u v, NxY P R sl s v ∧ At sl u v then some h.choose else none
section
variable {m n : Nat} {P : List (List Int)} {R : List (List (List Int))} {sl : List Int}
theorem toY_some {s u : Nat} (h : toY P R sl s = some u) : ∃ v, NxY P R sl s v ∧ At sl u v := by
  unfold toY at h
  by_cases ex : ∃ u v, NxY P R sl s v ∧ At sl u v
  · rw [dif_pos ex] at h
    cases h
    exact ex.choose_spec
  · rw [dif_neg ex] at h
    cases h
theorem toY_lt (L : Lay m n sl) {s u : Nat} (h : toY P R sl s = some u) : s < n ∧ u < n := by
  obtain ⟨v, ⟨c, t, a, _⟩, a2⟩ := toY_some h
  exact ⟨(L.key a).2, (L.key a2).2⟩
end
end DL
--ELX
namespace DL
open PySem PySem.Spec PyProof.Rows L2 LamX PySem.W SL
def rotY (r : List Nat) : List Nat := r.drop 1 ++ r.take 1
theorem rotY_perm (r : List Nat) : (rotY r).Perm r := rot_perm r 1
theorem rotY_len (r : List Nat) : (rotY r).length = r.length := (rotY_perm r).length_eq
def setsY (sl : List Int) (ps : List (Nat × Nat)) (L : List Int) : List Int := ps.foldl (fun L p => L.set p.1 (sl.getD p.2 (-1))) L
theorem setsY_spec (sl : List Int) : ∀ (ps : List (Nat × Nat)) (L : List Int), (ps.map (·.1)).Nodup → (∀ p ∈ ps, p.1 < L.length) →
    (setsY sl ps L).length = L.length ∧ (∀ s, s ∉ ps.map (·.1) → (setsY sl ps L)[s]? = L[s]?) ∧ ∀ p ∈ ps, (setsY sl ps L)[p.1]? = some (sl.getD p.2 (-1))
  | [], L, _, _ => ⟨rfl, fun _ _ => rfl, fun p h => by cases h⟩
  | p :: ps, L, nd, lt => by
    rw [List.map_cons, List.nodup_cons] at nd
    have l0 : p.1 < L.length := lt p List.mem_cons_self
    obtain ⟨a, b, c⟩ := setsY_spec sl ps (L.set p.1 (sl.getD p.2 (-1))) nd.2 fun q hq => by rw [List.length_set]; exact lt q (List.mem_cons_of_mem _ hq)
    have e : setsY sl (p :: ps) L = setsY sl ps (L.set p.1 (sl.getD p.2 (-1))) := rfl
    rw [e]
    refine ⟨by rw [a, List.length_set], fun s hs => ?_, fun q hq => ?_⟩
    · rw [List.map_cons, List.mem_cons, not_or] at hs
      rw [b s hs.2, List.getElem?_set_ne (fun z => hs.1 z.symm)]
    · rcases List.mem_cons.mp hq with z | z
      · rw [z, b _ nd.1, List.getElem?_set_self l0]
      · exact c q z
def behL (sl : List Int) (r : List Nat) : List Int := setsY sl (r.zip (rotY r)) sl
theorem zip_fst {r : List Nat} : (r.zip (rotY r)).map (·.1) = r := by
  rw [List.map_fst_zip (by rw [rotY_len]; exact Nat.le_refl _)]
structure BehY (sl : List Int) (r : List Nat) (L : List Int) : Prop where
  len : L.length = sl.length
  out : ∀ s, s ∉ r → L[s]? = sl[s]?
  in_ : ∀ (i a b : Nat), r[i]? = some a → (rotY r)[i]? = some b → L[a]? = sl[b]?
theorem behL_spec {n : Nat} {sl : List Int} {r : List Nat} (ls : sl.length = n) (nd : r.Nodup) (lt : ∀ x ∈ r, x < n) : BehY sl r (behL sl r) := by
  obtain ⟨a, b, c⟩ := setsY_spec sl (r.zip (rotY r)) sl (by rw [zip_fst]; exact nd) fun p hp => by
    have : p.1 ∈ (r.zip (rotY r)).map (·.1) := List.mem_map.mpr ⟨p, hp, rfl⟩
    rw [zip_fst] at this
    rw [ls]
    exact lt _ this
  refine ⟨a, fun s hs => b s (by rw [zip_fst]; exact hs), fun i x y hx hy => ?_⟩
  have hp : (x, y) ∈ r.zip (rotY r) := List.mem_of_getElem? (i := i) (List.getElem?_zip_eq_some.mpr ⟨hx, hy⟩)
  have z := c _ hp
  have ly : y < sl.length := by rw [ls]; exact lt y ((rotY_perm r).mem_iff.mp (List.mem_of_getElem? hy))
  show (setsY sl (r.zip (rotY r)) sl)[x]? = sl[y]?
  rw [z, List.getD_eq_getElem?_getD, List.getElem?_eq_getElem ly]
  rfl
theorem BehY.src {sl L : List Int} {r : List Nat} (B : BehY sl r L) (nd : r.Nodup) (s : Nat) : ∃ t, L[s]? = sl[t]? ∧ ((s ∉ r ∧ t = s) ∨ ∃ i : Nat, r[i]? = some s ∧ (rotY r)[i]? = some t) := by
  by_cases h : s ∈ r
  · obtain ⟨i, hi⟩ := List.mem_iff_getElem?.mp h
    have li := (List.getElem?_eq_some_iff.mp hi).1
    have l2 : i < (rotY r).length := by rw [rotY_len]; exact li
    exact ⟨(rotY r)[i], B.in_ i s _ hi (List.getElem?_eq_getElem l2), .inr ⟨i, hi, List.getElem?_eq_getElem l2⟩⟩
  · exact ⟨s, B.out s h, .inl ⟨h, rfl⟩⟩
theorem BehY.lay {m n : Nat} {sl L : List Int} {r : List Nat} (B : BehY sl r L) (nd : r.Nodup) (Ly : Lay m n sl) : Lay m n L := by
  refine ⟨by rw [B.len, Ly.len], fun x hx => ?_, fun s t k h1 h2 => ?_⟩
  · obtain ⟨s, hs⟩ := List.mem_iff_getElem?.mp hx
    obtain ⟨t, e, _⟩ := B.src nd s
    rw [hs] at e
    exact Ly.rng x (List.mem_of_getElem? e.symm)
  · obtain ⟨s', e1, c1⟩ := B.src nd s
    obtain ⟨t', e2, c2⟩ := B.src nd t
    unfold At at h1 h2
    rw [h1] at e1
    rw [h2] at e2
    have st := Ly.inj s' t' k e1.symm e2.symm
    subst st
    rcases c1 with ⟨n1, z1⟩ | ⟨i, i1, i2⟩ <;> rcases c2 with ⟨n2, z2⟩ | ⟨j, j1, j2⟩
    · omega
    · subst z1
      exact absurd ((rotY_perm r).mem_iff.mp (List.mem_of_getElem? j2)) n1
    · subst z2
      exact absurd ((rotY_perm r).mem_iff.mp (List.mem_of_getElem? i2)) n2
    · have : i = j := nd_at ((rotY_perm r).nodup_iff.mpr nd) i2 j2
      subst this
      rw [i1] at j1
      exact Option.some.inj j1
inductive Rch (P : List (List Int)) (R : List (List (List Int))) : List Int → List Int → Prop
  | refl (sl : List Int) : Rch P R sl sl
  | step {sl L : List Int} {s : Nat} {r : List Nat} : Rch P R sl L → rgA (toY P R L) s = some r → Rch P R sl (behL L r)
theorem ring_lt {m n : Nat} {P : List (List Int)} {R : List (List (List Int))} {sl : List Int} (L : Lay m n sl) {s : Nat} {r : List Nat} (h : rgA (toY P R sl) s = some r) : r.Nodup ∧ r ≠ [] ∧ ∀ x ∈ r, x < n := by
  obtain ⟨w, up⟩ := rg_row h
  have l0 : 0 < r.length := (List.getElem?_eq_some_iff.mp w.hd).1
  refine ⟨w.nd, fun e => by rw [e] at l0; exact absurd l0 (Nat.lt_irrefl 0), fun x hx => ?_⟩
  obtain ⟨i, hi⟩ := List.mem_iff_getElem?.mp hx
  have li := (List.getElem?_eq_some_iff.mp hi).1
  rcases Nat.eq_zero_or_pos i with z | z
  · subst z
    have e0 := w.at_ 0 x hi
    cases e0
    have : itR (toY P R sl) r.length s = some s := w.nx
    obtain ⟨y, ey, fy⟩ := itR_lt (k := r.length - 1) (by rw [show r.length - 1 + 1 = r.length by omega]; exact this)
    exact (toY_lt L fy).2
  · have a := w.at_ i x hi
    obtain ⟨y, ey, fy⟩ := itR_lt (k := i - 1) (by rw [show i - 1 + 1 = i by omega]; exact a)
    exact (toY_lt L fy).2
theorem Rch.lay {m n : Nat} {P : List (List Int)} {R : List (List (List Int))} {sl L : List Int} (h : Rch P R sl L) (Ly : Lay m n sl) : Lay m n L := by
  induction h with
  | refl => exact Ly
  | step h1 h2 ih =>
    obtain ⟨nd, _, lt⟩ := ring_lt ih h2
    exact (behL_spec ih.len nd lt).lay nd ih
end DL
--ELX
namespace DL
open PySem PySem.Spec PyProof.Rows L2 LamX PySem.W SL
end DL
--ELX
namespace DL
open PySem PySem.Spec PyProof.Rows L2 LamX PySem.W SL
def okAt (R : List (List (List Int))) (sl : List Int) (k : Nat) (u : Int) : Bool := !decide (sl.getD u.toNat (-1) = -1) && !decide (sl.getD u.toNat (-1) ∈ (R.getD u.toNat []).getD k [])
def restB (P : List (List Int)) (R : List (List (List Int))) (sl : List Int) (k s : Nat) : Bool := ((P.getD k []).take (rk P k s)).all (okAt R sl k)
def calmB (P : List (List Int)) (R : List (List (List Int))) (sl : List Int) : Bool := sl.all fun x => decide (x = -1) || restB P R sl x.toNat (pos sl x)
theorem pos_lay {m n : Nat} {sl : List Int} (L : Lay m n sl) {s k : Nat} (a : At sl s k) : pos sl (k : Int) = s := by
  have h := lay_ix L a
  have h2 := (pos_at (mem_lay.mpr ⟨s, a⟩)).2
  rw [h] at h2
  exact (Option.some.inj h2).symm
end DL
--ELX
namespace DL
open PySem PySem.Spec PyProof.Rows L2 LamX PySem.W SL
theorem calm_stb {m n : Nat} {P : List (List Int)} {R : List (List (List Int))} {sl : List Int} (S : Setg m n P R) (G : Good m n P sl) (T : Stb P R sl) : calmB P R sl = true := by
  have L := G.lay
  unfold calmB
  rw [List.all_eq_true]
  intro x hx
  have rg := L.rng x hx
  by_cases c : x = -1
  · rw [decide_eq_true c]; rfl
  · rw [decide_eq_false c, Bool.false_or]
    obtain ⟨k, rfl⟩ : ∃ k : Nat, x = (k : Int) := ⟨x.toNat, by omega⟩
    obtain ⟨s, a⟩ := mem_lay.mp hx
    obtain ⟨km, sn⟩ := L.key a
    rw [Int.toNat_natCast, pos_lay L a]
    unfold restB
    rw [List.all_eq_true]
    intro y hy
    obtain ⟨j, hj⟩ := List.mem_iff_getElem?.mp hy
    have jl : j < rk P k s := by
      have := (List.getElem?_eq_some_iff.mp hj).1
      rw [List.length_take] at this
      omega
    rw [List.getElem?_take_of_lt jl] at hj
    have jn : j < n := by have := (S.rk_at km sn).2.1; omega
    have pj := S.pr_at km jn
    rw [pj.1] at hj
    have ey : y = ((pr P k j : Nat) : Int) := (Option.some.inj hj).symm
    subst ey
    have pn := pj.2
    obtain ⟨k', a'⟩ := G.ah s k a j jl
    have b := T s k a j jl k' a'
    have km' := (L.key a').1
    have ne : k' ≠ k := fun e => by
      subst e
      have z := L.inj _ _ _ a' a
      have w := S.rk_pr km jn
      rw [z] at w
      omega
    have v : sl.getD (pr P k j) (-1) = (k' : Int) := by
      unfold At at a'
      rw [List.getD_eq_getElem?_getD, a']; rfl
    unfold okAt
    rw [Int.toNat_natCast, v]
    have nb := S.bt_not pn km km' (fun e => ne e.symm)
    rw [b] at nb
    have nm : ¬ ((k' : Nat) : Int) ∈ (R.getD (pr P k j) []).getD k [] := fun z => by
      unfold bt at nb
      rw [decide_eq_true z] at nb
      cases nb
    rw [decide_eq_false nm, decide_eq_false (by omega : ¬ (k' : Int) = -1)]
    rfl
end DL
namespace SL
open PySem PySem.Spec PyProof.Rows L2
end SL
namespace DL
open PySem PySem.Spec PyProof.Rows L2 LamX PySem.W SL
section
variable {T : List (Addr × Str)} {X : Cx} {a : Expr} {fa : DTE} {p pos : Pos}
def dLenSetL (f : DTE) : DTE := fun r st Q => f r st fun x st1 => onO (dDictP.seqL st1 x) fun xs => onO (intsD xs) fun ns => ns.length ≤ 4000 ∧ ∀ ks : List Int, ks.Nodup → (∀ k, k ∈ ks ↔ k ∈ ns) → Q (.int (ks.length : Nat)) st1
@[simp] theorem e_lenSetL {f : DTE} {r : DEnv} {st : DSt} {Q : DK} : dLenSetL f r st Q = f r st fun x st1 => onO (dDictP.seqL st1 x) fun xs => onO (intsD xs) fun ns => ns.length ≤ 4000 ∧ ∀ ks : List Int, ks.Nodup → (∀ k, k ∈ ks ↔ k ∈ ns) → Q (.int (ks.length : Nat)) st1 := rfl
end
end DL
namespace DL
open PySem PySem.Spec PyProof.Rows L2 LamX PySem.W SL
section
variable {T : List (Addr × Str)} {X : Cx} {elt tg iter tg1 iter1 : Expr} {ifs ifs1 : List Expr} {scope : Scope} {own : List (Str × Nat)} {vs1 : List Nat} {pos : Pos} {f f1 : DTI} {g g1 : DTG} {tt tt1 : DTT} {te : DTE}
end
end DL
namespace DL
open PySem PySem.Spec PyProof.Rows L2 LamX PySem.W SL
end DL
--ELX
namespace DL
open PySem PySem.Spec PyProof.Rows L2 LamX PySem.W SL
section
variable {m n : Nat} {P : List (List Int)} {R : List (List (List Int))} {ss h : List Nat} {l l' : List Int}
theorem at_setY {s t k j : Nat} (lt : s < l.length) : At (l.set s (k : Int)) t j ↔ (t = s ∧ j = k) ∨ (t ≠ s ∧ At l t j) := by
  unfold At
  rw [List.getElem?_set]
  by_cases e : s = t
  · subst e
    rw [if_pos rfl, if_pos lt]
    constructor
    · intro z; have := Option.some.inj z; exact .inl ⟨rfl, by omega⟩
    · rintro (⟨_, e⟩ | ⟨no, _⟩)
      · rw [e]
      · exact absurd rfl no
  · rw [if_neg e]
    constructor
    · intro z; exact .inr ⟨fun q => e q.symm, z⟩
    · rintro (⟨q, _⟩ | ⟨_, z⟩)
      · exact absurd q.symm e
      · exact z
theorem getD_free {s : Nat} (L : Lay m n l) (sn : s < n) : l.getD s (-1) = -1 ↔ ∀ k, ¬ At l s k := by
  rw [List.getD_eq_getElem?_getD]
  rcases L.either sn with z | ⟨k, a⟩
  · rw [z]
    refine ⟨fun _ k a => ?_, fun _ => rfl⟩
    unfold At at a
    rw [z] at a
    have := Option.some.inj a
    omega
  · refine ⟨fun e => ?_, fun no => absurd a (no k)⟩
    unfold At at a
    rw [a] at e
    have : ((k : Nat) : Int) = -1 := e
    omega
end
end DL
namespace DL
open PySem PySem.Spec PyProof.Rows L2 LamX PySem.W SL
structure Two (m n : Nat) (P : List (List Int)) (R : List (List (List Int))) (h : List Nat) (A B : List Int) : Prop where
  S : Setg m n P R
  T : Trn m n R
  H : Hist m n h
  ga : Good m n P A
  gb : Good m n P B
  sa : Stb P R A
  sb : Stb P R B
  ka : ∀ k, (∃ s, At A s k) ↔ k ∈ h
  kb : ∀ k, (∃ s, At B s k) ↔ k ∈ h
  tk : ∀ s, (∃ k, At A s k) ↔ ∃ k, At B s k
def Ea (P : List (List Int)) (A B : List Int) (k s : Nat) : Prop := ∃ u v, At A u k ∧ At B v k ∧ (s = u ∨ s = v) ∧ rk P k s ≤ rk P k u ∧ rk P k s ≤ rk P k v
def La (P : List (List Int)) (A B : List Int) (k s : Nat) : Prop := ∃ u v, At A u k ∧ At B v k ∧ (s = u ∨ s = v) ∧ rk P k u ≤ rk P k s ∧ rk P k v ≤ rk P k s
section
variable {m n : Nat} {P : List (List Int)} {R : List (List (List Int))} {h : List Nat} {A B : List Int}
theorem Two.symm (X : Two m n P R h A B) : Two m n P R h B A := ⟨X.S, X.T, X.H, X.gb, X.ga, X.sb, X.sa, X.kb, X.ka, fun s => (X.tk s).symm⟩
theorem Ea.symm {k s : Nat} (e : Ea P A B k s) : Ea P B A k s := by
  obtain ⟨u, v, a, b, c, d, e⟩ := e
  exact ⟨v, u, b, a, c.symm, e, d⟩
theorem La.symm {k s : Nat} (e : La P A B k s) : La P B A k s := by
  obtain ⟨u, v, a, b, c, d, e⟩ := e
  exact ⟨v, u, b, a, c.symm, e, d⟩
theorem rk_one (S : Setg m n P R) {k s t : Nat} (km : k < m) (sn : s < n) (tn : t < n) (e : rk P k s = rk P k t) : s = t := by
  have h1 := S.pr_rk km sn
  have h2 := S.pr_rk km tn
  rw [e, h2] at h1
  exact h1.symm
theorem stb_at (S : Setg m n P R) (G : Good m n P A) (st : Stb P R A) {k v s k' : Nat} (a : At A v k) (sn : s < n) (lt : rk P k s < rk P k v) (a' : At A s k') : bt R s k' k = true := by
  have km := (G.lay.key a).1
  have e := S.pr_rk km sn
  have z := st v k a (rk P k s) lt k' (by rw [e]; exact a')
  rw [e] at z
  exact z
theorem ahead_at (S : Setg m n P R) (G : Good m n P A) {k v s : Nat} (a : At A v k) (sn : s < n) (lt : rk P k s < rk P k v) : ∃ k', At A s k' := by
  have km := (G.lay.key a).1
  have e := S.pr_rk km sn
  obtain ⟨k', z⟩ := G.ah v k a (rk P k s) lt
  rw [e] at z
  exact ⟨k', z⟩
theorem Ea.at_ {k s : Nat} (e : Ea P A B k s) : At A s k ∨ At B s k := by
  obtain ⟨u, v, a, b, c, _⟩ := e
  rcases c with rfl | rfl
  · exact .inl a
  · exact .inr b
theorem La.at_ {k s : Nat} (e : La P A B k s) : At A s k ∨ At B s k := by
  obtain ⟨u, v, a, b, c, _⟩ := e
  rcases c with rfl | rfl
  · exact .inl a
  · exact .inr b
structure IsJ (m n : Nat) (rel : Nat → Nat → Prop) (J : List Int) : Prop where
  len : J.length = n
  rng : ∀ x ∈ J, -1 ≤ x ∧ x < m
  at_ : ∀ s k, At J s k ↔ rel k s
theorem IsJ.one {rel : Nat → Nat → Prop} {J J' : List Int} (I : IsJ m n rel J) (I' : IsJ m n rel J') : J = J' := by
  refine List.ext_getElem? fun s => ?_
  rcases Nat.lt_or_ge s n with q | q
  · have l1 : s < J.length := by rw [I.len]; exact q
    have l2 : s < J'.length := by rw [I'.len]; exact q
    have r1 := I.rng _ (List.getElem_mem l1)
    have r2 := I'.rng _ (List.getElem_mem l2)
    rw [List.getElem?_eq_getElem l1, List.getElem?_eq_getElem l2]
    congr 1
    rcases Int.lt_or_le J[s] 0 with z | z
    · rcases Int.lt_or_le J'[s] 0 with y | y
      · omega
      · have a : At J' s J'[s].toNat := by unfold At; rw [List.getElem?_eq_getElem l2]; congr 1; omega
        have b := (I.at_ _ _).mpr ((I'.at_ _ _).mp a)
        unfold At at b
        rw [List.getElem?_eq_getElem l1] at b
        have := Option.some.inj b
        omega
    · have a : At J s J[s].toNat := by unfold At; rw [List.getElem?_eq_getElem l1]; congr 1; omega
      have b := (I'.at_ _ _).mpr ((I.at_ _ _).mp a)
      unfold At at b
      rw [List.getElem?_eq_getElem l2] at b
      have := Option.some.inj b
      omega
  · rw [List.getElem?_eq_none (by rw [I.len]; exact q), List.getElem?_eq_none (by rw [I'.len]; exact q)]
theorem Two.good (X : Two m n P R h A B) {rel : Nat → Nat → Prop} {J : List Int} (I : IsJ m n rel J) (fn : ∀ k s t, rel k s → rel k t → s = t) (at_ : ∀ k s, rel k s → At A s k ∨ At B s k) (sur : ∀ s k, At A s k → ∃ k', rel k' s) (st : ∀ k s u k', rel k s → u < n → rk P k u < rk P k s → rel k' u → bt R u k' k = true) : calmB P R J = true := by
  have S := X.S
  have L : Lay m n J := ⟨I.len, I.rng, fun s t k h1 h2 => fn k s t ((I.at_ _ _).mp h1) ((I.at_ _ _).mp h2)⟩
  refine calm_stb S ⟨L, fun s k a j lj => ?_⟩ fun s k a j lj k' a' => ?_
  · obtain ⟨km, sn⟩ := L.key a
    have jn : j < n := by have := (S.rk_at km sn).2.1; omega
    have pn := (S.pr_at km jn).2
    have er := S.rk_pr km jn
    have e := (I.at_ _ _).mp a
    have tk : ∃ c, At A (pr P k j) c := by
      rcases at_ k s e with z | z
      · exact ahead_at S X.ga z pn (by omega)
      · exact (X.tk _).mpr (ahead_at S X.gb z pn (by omega))
    obtain ⟨c, ac⟩ := tk
    obtain ⟨k', e'⟩ := sur _ _ ac
    exact ⟨k', (I.at_ _ _).mpr e'⟩
  · obtain ⟨km, sn⟩ := L.key a
    have jn : j < n := by have := (S.rk_at km sn).2.1; omega
    have pn := (S.pr_at km jn).2
    have er := S.rk_pr km jn
    exact st k s _ k' ((I.at_ _ _).mp a) pn (by omega) ((I.at_ _ _).mp a')
end
end DL
namespace DL
open PySem PySem.Spec PyProof.Rows L2 LamX PySem.W SL
def NR (n : Nat) (q0 q : Nat → List Nat) (o : Nat → Option Nat) (l : List Int) : Prop := ∀ s, s < n → ∀ k, k ∈ q0 s → k ∉ q s → o k ≠ some s → ¬ At l s k
structure QQ (m n : Nat) (P : List (List Int)) (R : List (List (List Int))) (h : List Nat) (q0 : Nat → List Nat) (l : List Int) : Prop where
  S : Setg m n P R
  hq : ∀ s, s < n → ∀ k, k ∈ q0 s ↔ k ∈ h
  so : ∀ s, s < n → (q0 s).Pairwise fun a b => bt R s b a = true
  nd : ∀ s, s < n → (q0 s).Nodup
  g : Good m n P l
  st : Stb P R l
  ks : ∀ k s, At l s k → k ∈ h
section
variable {m n : Nat} {P : List (List Int)} {R : List (List (List Int))} {h : List Nat} {q0 q : Nat → List Nat} {w : List Nat} {o : Nat → Option Nat} {l : List Int}
theorem NR.start (q0 : Nat → List Nat) (n : Nat) (l : List Int) : NR n q0 q0 (fun _ => none) l := fun s hs k hk no => absurd hk no
theorem QQ.before (X : QQ m n P R h q0 l) {s u k : Nat} {c t : List Nat} (sn : s < n) (e : c ++ k :: t = q0 s) (a : At l u k) (lt : rk P k s < rk P k u) : ∃ k', k' ≠ k ∧ At l s k' ∧ k' ∈ q0 s ∧ k' ∉ c := by
  have S := X.S
  obtain ⟨k', a'⟩ := ahead_at S X.g a sn lt
  have b := stb_at S X.g X.st a sn lt a'
  have ne : k' ≠ k := fun z => by
    subst z
    have := X.g.lay.inj _ _ _ a a'
    subst this
    omega
  have km := (X.g.lay.key a).1
  have km' := (X.g.lay.key a').1
  have mq : k' ∈ q0 s := (X.hq s sn k').mpr (X.ks k' s a')
  refine ⟨k', ne, a', mq, fun hc => ?_⟩
  have so := X.so s sn
  rw [← e, List.pairwise_append] at so
  have b2 := so.2.2 k' hc k (by simp)
  have := S.bt_not sn km' km ne
  rw [b, b2] at this
  cases this
theorem upd_notin {s t x k : Nat} {r : List Nat} (e : q s = r ++ [k]) (no : x ∉ updN q s r t) (ne : ¬ (t = s ∧ x = k)) : x ∉ q t := by
  by_cases c : t = s
  · subst c
    rw [updN_same] at no
    rw [e]
    intro z
    rcases List.mem_append.mp z with z | z
    · exact no z
    · exact ne ⟨rfl, List.mem_singleton.mp z⟩
  · rw [updN_ne c] at no
    exact no
theorem NR.take (N : NR n q0 q o l) {s k : Nat} {r : List Nat} (e : q s = r ++ [k]) (W : WI n P q0 q (w ++ [s]) o) (ok : o k = none) : NR n q0 (updN q s r) (updN o k (some s)) l := fun t ht x hx no ne => by
  by_cases c : t = s ∧ x = k
  · exact absurd (by rw [c.1, c.2, updN_same]) ne
  · have nq := upd_notin e no c
    by_cases d : x = k
    · subst d
      obtain ⟨u, hu, _⟩ := W.hit t ht x hx nq
      rw [ok] at hu
      cases hu
    · rw [updN_ne d] at ne
      exact N t ht x hx nq ne
theorem NR.swap (X : QQ m n P R h q0 l) (N : NR n q0 q o l) {s k u : Nat} {r : List Nat} (e : q s = r ++ [k]) (W : WI n P q0 q (w ++ [s]) o) (ok : o k = some u) (lt : rk P k s < rk P k u) : NR n q0 (updN q s r) (updN o k (some s)) l := fun t ht x hx no ne => by
  by_cases c : t = s ∧ x = k
  · exact absurd (by rw [c.1, c.2, updN_same]) ne
  · have nq := upd_notin e no c
    by_cases d : x = k
    · subst d
      by_cases tu : t = u
      · subst tu
        intro a
        obtain ⟨sn, _, so⟩ := W.sl
        obtain ⟨z, ez⟩ := W.pre s sn
        rw [e, List.append_assoc] at ez
        obtain ⟨k', nk, a', mq, nc⟩ := X.before sn ez a lt
        have nq' : k' ∉ q s := by
          rw [e]
          intro y
          rcases List.mem_append.mp y with y | y
          · exact nc y
          · exact nk (List.mem_singleton.mp y)
        exact N s sn k' mq nq' (so k') a'
      · exact N t ht x hx nq (by rw [ok]; exact fun z => tu (Option.some.inj z).symm)
    · rw [updN_ne d] at ne
      exact N t ht x hx nq ne
theorem NR.keep (X : QQ m n P R h q0 l) (N : NR n q0 q o l) {s k u : Nat} {r : List Nat} (e : q s = r ++ [k]) (W : WI n P q0 q (w ++ [s]) o) (ok : o k = some u) (le : rk P k u ≤ rk P k s) : NR n q0 (updN q s r) o l := fun t ht x hx no ne => by
  by_cases c : t = s ∧ x = k
  · obtain ⟨rfl, rfl⟩ := c
    intro a
    obtain ⟨un, uw, z, ez⟩ := W.own x u ok
    have us : u ≠ t := fun y => by subst y; exact uw (by simp)
    have km := (X.g.lay.key a).1
    have lt : rk P x u < rk P x t := by
      rcases Nat.lt_or_ge (rk P x u) (rk P x t) with y | y
      · exact y
      · exact absurd (rk_one X.S km un ht (by omega)) us
    obtain ⟨k', nk, a', mq, nc⟩ := X.before un ez a lt
    refine N u un k' mq nc (fun y => nk (W.inj y ok)) a'
  · exact N t ht x hx (upd_notin e no c) ne
end
end DL
--ELX
namespace DL
open PySem PySem.Spec PyProof.Rows L2 LamX PySem.W SL
end DL
--ELX
namespace DL
open PySem PySem.Spec PyProof.Rows L2 LamX PySem.W SL
end DL
--ELX
namespace DL
open PySem PySem.Spec PyProof.Rows L2 LamX PySem.W SL
end DL
namespace DL
open PySem PySem.Spec PyProof.Rows L2 LamX PySem.W SL
end DL
--ELX
namespace DL
open PySem PySem.Spec PyProof.Rows L2 LamX PySem.W SL
def kvE (e : Nat → Nat) (ks : List Nat) : List (Key × D) := ks.map fun k : Nat => ((Sum.inl (k : Int) : Key), D.int (e k : Nat))
section
variable {m n : Nat} {P : List (List Int)} {R : List (List (List Int))} {A B l : List Int} {e : Nat → Nat} {ks : List Nat}
theorem putD_fresh {κ : Type} [DecidableEq κ] {kvs : List (κ × D)} {k : κ} {d : D} (no : ∀ kv ∈ kvs, kv.1 ≠ k) : putD kvs k d = kvs ++ [(k, d)] := by
  have z : ¬ (kvs.any fun kv => decide (kv.1 = k)) = true := fun h => by
    obtain ⟨kv, hkv, q⟩ := List.any_eq_true.mp h
    exact no kv hkv (of_decide_eq_true q)
  unfold putD
  rw [if_neg z]
end
end DL
namespace DL
open PySem PySem.Spec PyProof.Rows L2 LamX PySem.W SL
section
variable {m n : Nat} {P : List (List Int)} {R : List (List (List Int))} {sl L : List Int} {r : List Nat} {s0 : Nat}
structure Exc (P : List (List Int)) (R : List (List (List Int))) (sl : List Int) (r : List Nat) (L : List Int) : Prop where
  len : L.length = sl.length
  out : ∀ s, s ∉ r → L[s]? = sl[s]?
  in_ : ∀ s, s ∈ r → ∃ u v, toY P R sl s = some u ∧ u ∈ r ∧ NxY P R sl s v ∧ At sl u v ∧ At L s v
  onto : ∀ u, u ∈ r → ∃ s, s ∈ r ∧ toY P R sl s = some u
  ne : r ≠ []
theorem Exc.back (E : Exc P R sl r L) (Ly : Lay m n sl) {s k : Nat} (a : At L s k) : ∃ u, At sl u k ∧ ((s ∉ r ∧ u = s) ∨ (s ∈ r ∧ u ∈ r ∧ NxY P R sl s k ∧ rk P k s < rk P k u)) := by
  by_cases h : s ∈ r
  · obtain ⟨u, v, _, ur, nx, av, aL⟩ := E.in_ s h
    have := a.one aL
    subst this
    obtain ⟨c, t, ac, w, z⟩ := id nx
    have tu := Ly.inj _ _ _ w.2.1 av
    subst tu
    exact ⟨t, av, .inr ⟨h, ur, nx, w.2.2⟩⟩
  · refine ⟨s, ?_, .inl ⟨h, rfl⟩⟩
    unfold At at a ⊢
    rw [← E.out s h]
    exact a
theorem Exc.keys (E : Exc P R sl r L) (Ly : Lay m n sl) (k : Nat) : (∃ s, At L s k) ↔ ∃ s, At sl s k := by
  constructor
  · rintro ⟨s, a⟩
    obtain ⟨u, au, _⟩ := E.back Ly a
    exact ⟨u, au⟩
  · rintro ⟨u, a⟩
    by_cases h : u ∈ r
    · obtain ⟨s, hs, f⟩ := E.onto u h
      obtain ⟨u2, v, f2, _, _, av, aL⟩ := E.in_ s hs
      rw [f] at f2
      cases f2
      have := av.one a
      subst this
      exact ⟨s, aL⟩
    · refine ⟨u, ?_⟩
      unfold At at a ⊢
      rw [E.out u h]
      exact a
end
end DL
namespace DL
open PySem PySem.Spec PyProof.Rows L2 LamX PySem.W SL
end DL
namespace DL
open PySem PySem.Spec PyProof.Rows L2 LamX PySem.W SL
end DL
--ELX
namespace DL
open PySem PySem.Spec PyProof.Rows L2 LamX PySem.W SL
end DL
--ELX
namespace DL
open PySem PySem.Spec PyProof.Rows L2 LamX PySem.W SL
end DL
--ELX
namespace DL
open PySem PySem.Spec PyProof.Rows L2 LamX PySem.W SL
theorem clo_tabs (k : Nat) (R : List (List (List Int))) : clo k (tabsD R) = true := by simp only [tabsD, DL.clo]; exact clos_tabs _ _
end DL
--ELX
namespace DL
open PySem PySem.Spec PyProof.Rows L2 LamX PySem.W SL
theorem set_self {st : DSt} {d : Nat} {o : O} (h : st[d]? = some o) : st.set d o = st := by
  refine List.ext_getElem? fun i => ?_
  by_cases e : d = i
  · subst e
    rw [List.getElem?_set_self (List.getElem?_eq_some_iff.mp h).1, h]
  · rw [List.getElem?_set_ne e]
end DL
namespace DL
open PySem PySem.Spec PyProof.Rows L2 LamX PySem.W SL
section
variable {T : List (Addr × Str)} {X : Cx} {pos : Pos} {vs : List Nat}
def gSbK (fo fi : DTE) : DTG := fun d r st Q => fo r st fun o st1 => fi r st1 fun i st2 => onDk st2 o fun n kvs => onO (keyD i) fun k => kvs.length < sizeLine ∧ Q r (st2.set n (.dK (putD kvs k d)))
@[simp] theorem e_gSbK {fo fi : DTE} {d : D} {r : DEnv} {st : DSt} {Q : DEnv → DSt → Prop} : gSbK fo fi d r st Q = fo r st fun o st1 => fi r st1 fun i st2 => onDk st2 o fun n kvs => onO (keyD i) fun k => kvs.length < sizeLine ∧ Q r (st2.set n (.dK (putD kvs k d))) := rfl
end
end DL
namespace DL
open PySem PySem.Spec PyProof.Rows L2 LamX PySem.W SL
end DL
--ELX
namespace DL
open PySem PySem.Spec PyProof.Rows L2 LamX PySem.W SL
structure WP (m n : Nat) (P : List (List Int)) (R : List (List (List Int))) (h : List Nat) (q0 q : Nat → List Nat) (w : List Nat) (o : Nat → Option Nat) (e : Nat → Nat) (ks : List Nat) : Prop where
  wi : WI n P q0 q w o
  nr : ∀ l, QQ m n P R h q0 l → NR n q0 q o l
  hk : ∀ k, (k ∈ ks → o k = some (e k)) ∧ (k ∉ ks → o k = none)
  nd : ks.Nodup
section
variable {m n : Nat} {P : List (List Int)} {R : List (List (List Int))} {h : List Nat} {q0 q : Nat → List Nat} {w : List Nat} {o : Nat → Option Nat} {e : Nat → Nat} {ks : List Nat} {A : DSt}
theorem kvE_val {k : Nat} : valD (kvE e ks) (.inl (k : Int)) = if k ∈ ks then some (.int (e k : Nat)) else none := by
  unfold valD kvE
  induction ks with
  | nil => rfl
  | cons j ks ih =>
    rw [List.map_cons, List.find?_cons]
    by_cases c : j = k
    · subst c
      rw [decide_eq_true rfl, if_pos List.mem_cons_self]
      rfl
    · rw [decide_eq_false (fun z => c (by injection z with z; omega))]
      show Option.map _ _ = _
      rw [ih]
      by_cases d : k ∈ ks
      · rw [if_pos d, if_pos (List.mem_cons_of_mem _ d)]
      · rw [if_neg d, if_neg (fun z => by
          rcases List.mem_cons.mp z with y | y
          · exact c y.symm
          · exact d y)]
theorem kvE_new {k s : Nat} (no : k ∉ ks) : putD (kvE e ks) (.inl (k : Int)) (.int (s : Nat)) = kvE (updN e k s) (ks ++ [k]) := by
  rw [putD_fresh fun kv hkv z => ?_]
  · unfold kvE
    rw [List.map_append]
    congr 1
    · refine List.map_congr_left fun j hj => ?_
      rw [updN_ne (fun z => no (by rw [← z]; exact hj))]
    · show _ = [((Sum.inl (k : Int) : Key), D.int (updN e k s k : Nat))]
      rw [updN_same]
  · unfold kvE at hkv
    obtain ⟨j, hj, rfl⟩ := List.mem_map.mp hkv
    injection z with z
    exact no (by rw [show k = j by omega]; exact hj)
theorem kvE_old {k s : Nat} (hk : k ∈ ks) : putD (kvE e ks) (.inl (k : Int)) (.int (s : Nat)) = kvE (updN e k s) ks := by
  have z : ((kvE e ks).any fun kv => decide (kv.1 = (Sum.inl (k : Int) : Key))) = true := List.any_eq_true.mpr ⟨((Sum.inl (k : Int) : Key), D.int (e k : Nat)), List.mem_map.mpr ⟨k, hk, rfl⟩, decide_eq_true rfl⟩
  unfold putD
  rw [if_pos z]
  unfold kvE
  rw [List.map_map]
  refine List.map_congr_left fun j hj => ?_
  show (if (Sum.inl (j : Int) : Key) = .inl (k : Int) then ((Sum.inl (j : Int) : Key), D.int (s : Nat)) else ((Sum.inl (j : Int) : Key), D.int (e j : Nat))) = ((Sum.inl (j : Int) : Key), D.int (updN e k s j : Nat))
  by_cases c : j = k
  · subst c
    rw [if_pos rfl, updN_same]
  · rw [if_neg (fun z => c (by injection z with z; omega)), updN_ne c]
theorem WP.take {s k : Nat} {r : List Nat} (X : WP m n P R h q0 q (w ++ [s]) o e ks) (z : q s = r ++ [k]) (no : k ∉ ks) : WP m n P R h q0 (updN q s r) w (updN o k (some s)) (updN e k s) (ks ++ [k]) := by
  have ok := (X.hk k).2 no
  refine ⟨X.wi.take z ok, fun l Y => (X.nr l Y).take z X.wi ok, fun j => ⟨fun hj => ?_, fun hj => ?_⟩, ?_⟩
  · by_cases c : j = k
    · subst c; rw [updN_same, updN_same]
    · rw [updN_ne c, updN_ne c]
      rcases List.mem_append.mp hj with y | y
      · exact (X.hk j).1 y
      · exact absurd (List.mem_singleton.mp y) c
  · have c : j ≠ k := fun y => hj (by rw [y]; simp)
    rw [updN_ne c]
    exact (X.hk j).2 fun y => hj (List.mem_append_left _ y)
  · rw [List.nodup_append]
    exact ⟨X.nd, by simp, fun a ha b hb y => no (by rw [← List.mem_singleton.mp hb, ← y]; exact ha)⟩
theorem WP.swap {s k u : Nat} {r : List Nat} (X : WP m n P R h q0 q (w ++ [s]) o e ks) (z : q s = r ++ [k]) (hk : k ∈ ks) (eu : e k = u) (lt : rk P k s < rk P k u) : WP m n P R h q0 (updN q s r) (w ++ [u]) (updN o k (some s)) (updN e k s) ks := by
  have ok := (X.hk k).1 hk
  rw [eu] at ok
  refine ⟨X.wi.swap z ok lt, fun l Y => (X.nr l Y).swap Y z X.wi ok lt, fun j => ⟨fun hj => ?_, fun hj => ?_⟩, X.nd⟩
  · by_cases c : j = k
    · subst c; rw [updN_same, updN_same]
    · rw [updN_ne c, updN_ne c]
      exact (X.hk j).1 hj
  · have c : j ≠ k := fun y => hj (by rw [y]; exact hk)
    rw [updN_ne c]
    exact (X.hk j).2 hj
theorem WP.keep {s k u : Nat} {r : List Nat} (X : WP m n P R h q0 q (w ++ [s]) o e ks) (z : q s = r ++ [k]) (hk : k ∈ ks) (eu : e k = u) (le : rk P k u ≤ rk P k s) : WP m n P R h q0 (updN q s r) (w ++ [s]) o (updN e k u) ks := by
  have ok := (X.hk k).1 hk
  rw [eu] at ok
  refine ⟨X.wi.keep z ok le, fun l Y => (X.nr l Y).keep Y z X.wi ok le, fun j => ⟨fun hj => ?_, (X.hk j).2⟩, X.nd⟩
  by_cases c : j = k
  · subst c; rw [updN_same]; exact ok
  · rw [updN_ne c]
    exact (X.hk j).1 hj
end
end DL
namespace DL
open PySem PySem.Spec PyProof.Rows L2 LamX PySem.W SL
def F__law_late_tables (g__law_take : DRs) (g__law_ordered_table : DRs) : DTS := (sSeq (sSet 3 (dLstN daNil)) (sSeq (sFor (wRng1 (daCons (dVar 2) daNil)) (gNm 4) (sSeq (sSet 5 (dCB (dSortTs finT) (daCons (dLcG (wEnum (daCons (dVar 1) daNil)) (gTp 2 (gsCons (gNm 10) (gsCons (gNm 11) gsNil))) dtYes (dTup (daCons (dOp dSub (dC (.int 0)) (dIndex (dVar 11) (daCons (dVar 4) daNil))) (daCons (dCB g__law_take (daCons (dVar 0) (daCons (dC (.int 9)) daNil))) (daCons (dVar 10) daNil)))) [10, 11] finT) daNil))) (sSeq (sSet 6 (dLcG (wSeq (dVar 5)) (gTp 3 (gsCons (gNm 8) (gsCons (gNm 9) (gsCons (gNm 10) gsNil)))) dtYes (dVar 10) [8, 9, 10] finN)) (sSeq (sSet 7 (dCB g__law_take (daCons (dVar 0) (daCons (dCB dLen (daCons (dVar 6) daNil)) daNil)))) (sSeq (sIf (dtAnd (dTest (dOp dEq (dCB g__law_take (daCons (dVar 0) (daCons (dC (.int 3)) daNil))) (dC (.int 0)))) (dTest (dOp dGt (dVar 7) (dC (.int 0))))) (sAsg (dTup (daCons (dOp dIx (dVar 6) (dVar 7)) (daCons (dOp dIx (dVar 6) (dOp dSub (dVar 7) (dC (.int 1)))) daNil))) (gTp 2 (gsCons (gSb (dVar 6) (dOp dSub (dVar 7) (dC (.int 1)))) (gsCons (gSb (dVar 6) (dVar 7)) gsNil)))) sNext) (sDrop (dMtL mAppend (dVar 3) (daCons (dCB g__law_ordered_table (daCons (dVar 6) daNil)) daNil)))))))) (sRet (dCB dTuple (daCons (dVar 3) daNil)))))
def F__law_even_setting (g__law_take : DRs) (g__law_mixed : DRs) (g__law_probe : DRs) (g__law_ordered_table : DRs) (g__law_late_tables : DRs) : DTS := (sSeq (sSet 3 (dCB dTuple (daCons (dLcG (wRng1 (daCons (dVar 1) daNil)) (gNm 4) dtYes (dCB g__law_probe (daCons (dVar 0) (daCons (dVar 2) daNil))) [4] finT) daNil))) (sSeq (sIf (dTest (dOp dEq (dCB g__law_take (daCons (dVar 0) (daCons (dC (.int 2)) daNil))) (dC (.int 0)))) (sRet (dTup (daCons (dVar 3) (daCons (dCB g__law_late_tables (daCons (dVar 0) (daCons (dVar 3) (daCons (dVar 2) daNil)))) daNil)))) sNext) (sRet (dTup (daCons (dVar 3) (daCons (dCB dTuple (daCons (dLcG (wRng1 (daCons (dVar 2) daNil)) (gNm 5) dtYes (dCB g__law_ordered_table (daCons (dCB g__law_mixed (daCons (dVar 0) (daCons (dLRg1 finT (dVar 1)) daNil))) daNil)) [5] finT) daNil)) daNil))))))
def F__law_few (g__law_take : DRs) (g__law_mixed : DRs) : DTS := (sRet (dCB dTuple (daCons (dCB (dSortI finT) (daCons (dSlG finT (dCB g__law_mixed (daCons (dVar 0) (daCons (dLRg1 finT (dVar 1)) daNil))) oNone (oSome (dCB g__law_take (daCons (dVar 0) (daCons (dOp dAdd (dVar 2) (dC (.int 1))) daNil))))) daNil)) daNil)))
def F__law_laid_v3 : DTS := (sSeq (sSet 3 (dNewK)) (sSeq (sFor (wSeq (dVar 2)) (gNm 4) (sSeq (sPar 5 6 (daCons (dVar 4) (daCons (dC (.int 0)) daNil))) (sSeq (sWhile (dTest (dInK false (dOp dIx (dOp dIx (dVar 0) (dVar 5)) (dVar 6)) (dVar 3))) (sSeq (sSet 7 (dOp dIx (dOp dIx (dVar 0) (dVar 5)) (dVar 6))) (sSeq (sSet 8 (dOp dGetK (dVar 3) (dVar 7))) (sSeq (sIf (dTest (dOp dNotIn (dVar 5) (dOp dIx (dOp dIx (dVar 1) (dVar 7)) (dVar 8)))) (sSeq (sPutK (dVar 3) (dVar 7) (dVar 5)) (sPar 5 6 (daCons (dVar 8) (daCons (dIndex (dOp dIx (dVar 0) (dVar 8)) (daCons (dVar 7) daNil)) daNil)))) sNext) (sSet 6 (dOp dAdd (dVar 6) (dC (.int 1)))))))) (sPutK (dVar 3) (dOp dIx (dOp dIx (dVar 0) (dVar 5)) (dVar 6)) (dVar 5))))) (sRet (dVar 3))))
def F__law_as_row : DTS := (sRet (dCB dTuple (daCons (dLcG (wRng1 (daCons (dVar 1) daNil)) (gNm 2) dtYes (dGetD (dVar 0) (dVar 2) (dNeg (dC (.int 1)))) [2] finT) daNil)))
def F__law_reads : DTS := (sSeq (sFor (wEnum (daCons (dOp dIx (dVar 0) (dVar 3)) daNil)) (gTp 2 (gsCons (gNm 4) (gsCons (gNm 5) gsNil))) (sIf (dtOr (dTest (dInK true (dVar 5) (dVar 2))) (dTest (dOp dIn (dOp dGetK (dVar 2) (dVar 5)) (dOp dIx (dOp dIx (dVar 1) (dVar 5)) (dVar 3))))) (sRet (dOp dAdd (dVar 4) (dC (.int 1)))) sNext)) (sRet (dCB dLen (daCons (dOp dIx (dVar 0) (dVar 3)) daNil))))
def F__law_absent_right (g_insert : DRs) (g_look_up : DRs) (g__law_reads : DRs) : DTS := (sSeq (sSet 5 (dCB g__law_reads (daCons (dVar 0) (daCons (dVar 1) (daCons (dVar 3) (daCons (dVar 4) daNil)))))) (sSeq (sIf (dTest (dOp dNe (dCB dRepr (daCons (dCB g_look_up (daCons (dVar 0) (daCons (dVar 1) (daCons (dVar 2) (daCons (dVar 4) daNil))))) daNil)) (dCB dRepr (daCons (dTup (daCons (dNeg (dC (.int 1))) (daCons (dVar 5) daNil))) daNil)))) (sRet (dC (.bl false))) sNext) (sSeq (sIf (dTest (dOp dNotIn (dNeg (dC (.int 1))) (dVar 2))) (sRet (dC (.bl true))) sNext) (sSeq (sSet 6 (dOp dIx (dCB g_insert (daCons (dVar 0) (daCons (dVar 1) (daCons (dVar 2) (daCons (dVar 4) daNil))))) (dC (.int 1)))) (sRet (dOp dEq (dOp dIx (dVar 6) (dC (.int 0))) (dTup (daCons (dVar 4) (daCons (dOp dIx (dOp dIx (dVar 0) (dVar 4)) (dOp dSub (dVar 5) (dC (.int 1)))) daNil)))))))))
def F__law_right_v37 (g_layout_of : DRs) (g_look_up : DRs) (g__law_take : DRs) (g__law_mixed : DRs) (g__law_even_setting : DRs) (g__law_few : DRs) (g__law_laid : DRs) (g__law_as_row : DRs) (g__law_absent_right : DRs) : DTS := (sSeq (sFor (wRng1 (daCons (dC (.int 3)) daNil)) (gNm 1) (sSeq (sPar 2 3 (daCons (dOp dAdd (dC (.int 1)) (dCB g__law_take (daCons (dVar 0) (daCons (dC (.int 10)) daNil)))) (daCons (dOp dAdd (dC (.int 1)) (dCB g__law_take (daCons (dVar 0) (daCons (dC (.int 12)) daNil)))) daNil))) (sSeq (sAsg (dCB g__law_even_setting (daCons (dVar 0) (daCons (dVar 2) (daCons (dVar 3) daNil)))) (gTp 2 (gsCons (gNm 4) (gsCons (gNm 5) gsNil)))) (sSeq (sSet 6 (dCB g__law_few (daCons (dVar 0) (daCons (dVar 2) (daCons (dCB dMin2 (daCons (dVar 2) (daCons (dVar 3) daNil))) daNil))))) (sSeq (sIf (dTest (dOp dEq (dCB g__law_take (daCons (dVar 0) (daCons (dC (.int 2)) daNil))) (dC (.int 0)))) (sSet 6 (dSlG finT (dCB dTuple (daCons (dLRg1 finT (dVar 2)) daNil)) oNone (oSome (dVar 3)))) sNext) (sSeq (sSet 7 (dCB g_layout_of (daCons (dVar 4) (daCons (dVar 5) (daCons (dCB dTuple (daCons (dCB g__law_mixed (daCons (dVar 0) (daCons (dVar 6) daNil))) daNil)) daNil))))) (sSeq (sSet 8 (dCB g__law_laid (daCons (dVar 4) (daCons (dVar 5) (daCons (dVar 6) daNil))))) (sSeq (sIf (dTest (dOp dNe (dVar 7) (dCB g__law_as_row (daCons (dVar 8) (daCons (dVar 3) daNil))))) (sRet (dC (.bl false))) sNext) (sSeq (sLockK 8 (sFor (wKeysK (dVar 8)) (gNm 9) (sSeq (sSet 10 (dOp dGetR (dVar 8) (dVar 9))) (sIf (dTest (dOp dNe (dCB dRepr (daCons (dCB g_look_up (daCons (dVar 4) (daCons (dVar 5) (daCons (dVar 7) (daCons (dVar 10) daNil))))) daNil)) (dCB dRepr (daCons (dTup (daCons (dVar 9) (daCons (dOp dAdd (dIndex (dOp dIx (dVar 4) (dVar 10)) (daCons (dVar 9) daNil)) (dC (.int 1))) daNil))) daNil)))) (sRet (dC (.bl false))) sNext)))) (sSeq (sSet 11 (dLcG (wRng1 (daCons (dVar 2) daNil)) (gNm 10) (dTest (dOp dNotIn (dVar 10) (dVar 6))) (dVar 10) [10] finT)) (sSeq (sIf (dtNot (dTest (dCB dAll (daCons (dLcG (wSeq (dVar 11)) (gNm 10) dtYes (dCB g__law_absent_right (daCons (dVar 4) (daCons (dVar 5) (daCons (dVar 7) (daCons (dVar 8) (daCons (dVar 10) daNil)))))) [10] finT) daNil)))) (sRet (dC (.bl false))) sNext) (sIf (dTest (dOp dNe (dVar 7) (dCB g__law_as_row (daCons (dVar 8) (daCons (dVar 3) daNil))))) (sRet (dC (.bl false))) sNext)))))))))))) (sRet (dC (.bl true))))
end DL
--ELX
namespace DL
open PySem PySem.Spec PyProof.Rows L2 LamX PySem.W SL
structure HL (n : Nat) (sl : List Int) (e : Nat → Nat) (ks : List Nat) : Prop where
  nd : ks.Nodup
  at_ : ∀ s k, At sl s k ↔ s ∈ ks ∧ e s = k
  lt : ∀ s ∈ ks, s < n
section
variable {m n : Nat} {P : List (List Int)} {R : List (List (List Int))} {sl : List Int} {e : Nat → Nat} {ks : List Nat}
theorem HL.len (h : HL n sl e ks) : (kvE e ks).length ≤ n := by
  have z := sub_len (xs := ks.map fun k : Nat => (k : Int)) (ys := DL.R n) (List.pairwise_map.mpr (h.nd.imp fun {a b} ne e => ne (by omega))) (fun x hx => by
    obtain ⟨y, hy, rfl⟩ := List.mem_map.mp hx
    have := h.lt y hy
    rw [R_mem]
    omega)
  rw [List.length_map, R_length] at z
  unfold kvE
  rw [List.length_map]
  exact z
theorem HL.nil : HL n (emp n) (fun _ => 0) [] := ⟨.nil, fun s k => ⟨fun z => absurd z emp_at, fun z => (by cases z.1)⟩, fun s z => (by cases z)⟩
theorem HL.put (h : HL n sl e ks) (ls : sl.length = n) {s a : Nat} (sn : s < n) : ∃ ks', putD (kvE e ks) (.inl (s : Int)) (.int (a : Nat)) = kvE (updN e s a) ks' ∧ HL n (sl.set s (a : Int)) (updN e s a) ks' := by
  have lt : s < sl.length := by rw [ls]; exact sn
  by_cases c : s ∈ ks
  · refine ⟨ks, kvE_old c, h.nd, fun t k => ?_, h.lt⟩
    rw [at_setY lt, h.at_]
    by_cases d : t = s
    · subst d
      rw [updN_same]
      constructor
      · rintro (⟨_, e⟩ | ⟨no, _⟩)
        · exact ⟨c, e.symm⟩
        · exact absurd rfl no
      · rintro ⟨_, e⟩; exact .inl ⟨rfl, e.symm⟩
    · rw [updN_ne d]
      constructor
      · rintro (⟨e, _⟩ | ⟨_, z⟩)
        · exact absurd e d
        · exact z
      · intro z; exact .inr ⟨d, z⟩
  · refine ⟨ks ++ [s], kvE_new c, ?_, fun t k => ?_, fun t ht => ?_⟩
    · rw [List.nodup_append]
      exact ⟨h.nd, by simp, fun a ha b hb y => c (by rw [← List.mem_singleton.mp hb, ← y]; exact ha)⟩
    · rw [at_setY lt, h.at_, List.mem_append, List.mem_singleton]
      by_cases d : t = s
      · subst d
        rw [updN_same]
        constructor
        · rintro (⟨_, e⟩ | ⟨no, _⟩)
          · exact ⟨.inr rfl, e.symm⟩
          · exact absurd rfl no
        · rintro ⟨_, e⟩; exact .inl ⟨rfl, e.symm⟩
      · rw [updN_ne d]
        constructor
        · rintro (⟨e, _⟩ | ⟨_, z⟩)
          · exact absurd e d
          · exact ⟨.inl z.1, z.2⟩
        · rintro ⟨z | z, e⟩
          · exact .inr ⟨d, z, e⟩
          · exact absurd z d
    · rcases List.mem_append.mp ht with y | y
      · exact h.lt t y
      · rw [List.mem_singleton.mp y]; exact sn
end
def g_laidX : DRs := fun ds st Q => ∃ (m n : Nat) (P : List (List Int)) (R : List (List (List Int))) (h : List Nat), ds = [rowsD P, tabsD R, histD h] ∧ Setg m n P R ∧ m ≤ 60 ∧ n ≤ 60 ∧ Hist m n h ∧ ∀ (e : Nat → Nat) (ks : List Nat), HL n (layF P R h) e ks → Q (.ref st.length) (st ++ [.dK (kvE e ks)])
theorem ar_laidX (ds : List D) (st : DSt) (Q : DK) (h : g_laidX ds st Q) : ds.length = 3 := by
  obtain ⟨_, _, _, _, _, rfl, _⟩ := h
  rfl
set_option maxHeartbeats 4000000 in
theorem sem_laidX (ds : List D) (st : DSt) (Q : DK) (h : g_laidX ds st Q) : F__law_laid_v3 { nx := fun _ st' => Rt st Q .non st', rt := Rt st Q } (startD 9 ds) st := by
  obtain ⟨m, n, P, R, h, rfl, S, m60, n60, H, q⟩ := h
  have st9 : startD 9 [rowsD P, tabsD R, histD h] = [some (.tup (P.map rowD)), some (.tup (R.map rowsD)), some (.tup (h.map fun k : Nat => .int (k : Nat))), none, none, none, none, none, none] := rfl
  have rl := S.rl
  have big : (1000 : Nat) ≤ sizeLine := by decide
  simp only [F__law_laid_v3, st9]
  try dsimp only
  rw [e_seq]
  try simp only [e_var, e_C, e_op, e_neg, e_isN, e_notN, e_and, e_or, e_not, e_test, e_tAnd, e_tOr, e_tNot, e_tYes, e_if, e_aNil, e_aCons, e_tup, e_lst, e_lstN, e_len0, e_len1, e_len2, e_len3, e_len4, e_len5, e_cb, e_on1, e_on2, e_onI, e_onB, e_onO, e_onO0, e_onOO, e_I0, e_I, e_add, e_addT, e_addS, e_addL, e_addLR, e_addRL, e_addRR, e_mul, e_mulL, e_mulT, e_rev, e_revT, e_ix, e_eqI, e_eqS, e_eqB, e_neI, e_neS, e_neB, e_ltI, e_chain, e_len, e_abs, e_2I, e_tuple1, e_tuple2, e_tuple3, e_listT, e_listN, e_allR, e_seqT, e_seqK, e_seqL, e_isi, e_isB, e_notB, e_truth, e_next, e_drop, e_ret, e_retN, e_ifS, e_set, e_asg, e_par, e_nm, e_gsN, e_gsC, e_gTpK, e_gTpL, e_sum, e_maxL, e_minL, e_maxDef, e_int, e_intB, e_aug, e_on3, e_par3, e_newK, e_getK, e_keyI, e_keyS, e_inK, e_ninK, e_putK, e_lenK, e_lstS, e_seqX, e_gTpT, e_oN, e_oS, e_sl, e_slT, e_slL, e_finT, e_finN, e_index, e_idxT, e_idxL, e_mIx, e_ixST, e_ixSL, e_mtL, e_w, e_w1, e_w2, e_wE, e_wZ, e_itK, e_itT, e_itL, e_itT2, e_itL2, e_lc, e_for, e_wipe0, e_wipe, e_okI, e_okR, e_gSb, List.getElem?_cons_zero, List.getElem?_cons_succ, List.set_cons_zero, List.set_cons_succ, e_getD, e_get1, e_lockK, e_dlockK, e_wItemsK, e_wKeysK, e_getR, e_inR, e_ninR, e_dictP, e_sortTs, e_maxTs, e_pop, e_lenSetL, e_gSbK]
  try dsimp only
  rw [e_seq]
  try simp only [e_var, e_C, e_op, e_neg, e_isN, e_notN, e_and, e_or, e_not, e_test, e_tAnd, e_tOr, e_tNot, e_tYes, e_if, e_aNil, e_aCons, e_tup, e_lst, e_lstN, e_len0, e_len1, e_len2, e_len3, e_len4, e_len5, e_cb, e_on1, e_on2, e_onI, e_onB, e_onO, e_onO0, e_onOO, e_I0, e_I, e_add, e_addT, e_addS, e_addL, e_addLR, e_addRL, e_addRR, e_mul, e_mulL, e_mulT, e_rev, e_revT, e_ix, e_eqI, e_eqS, e_eqB, e_neI, e_neS, e_neB, e_ltI, e_chain, e_len, e_abs, e_2I, e_tuple1, e_tuple2, e_tuple3, e_listT, e_listN, e_allR, e_seqT, e_seqK, e_seqL, e_isi, e_isB, e_notB, e_truth, e_next, e_drop, e_ret, e_retN, e_ifS, e_set, e_asg, e_par, e_nm, e_gsN, e_gsC, e_gTpK, e_gTpL, e_sum, e_maxL, e_minL, e_maxDef, e_int, e_intB, e_aug, e_on3, e_par3, e_newK, e_getK, e_keyI, e_keyS, e_inK, e_ninK, e_putK, e_lenK, e_lstS, e_seqX, e_gTpT, e_oN, e_oS, e_sl, e_slT, e_slL, e_finT, e_finN, e_index, e_idxT, e_idxL, e_mIx, e_ixST, e_ixSL, e_mtL, e_w, e_w1, e_w2, e_wE, e_wZ, e_itK, e_itT, e_itL, e_itT2, e_itL2, e_lc, e_for, e_wipe0, e_wipe, e_okI, e_okR, e_gSb, List.getElem?_cons_zero, List.getElem?_cons_succ, List.set_cons_zero, List.set_cons_succ, e_getD, e_get1, e_lockK, e_dlockK, e_wItemsK, e_wKeysK, e_getR, e_inR, e_ninR, e_dictP, e_sortTs, e_maxTs, e_pop, e_lenSetL, e_gSbK]
  refine for_list (fun k : Nat => D.int (k : Nat)) (fun left r st' => ∃ (dn : List Nat) (e : Nat → Nat) (ks : List Nat) (x4 x5 x6 x7 x8 : Option D), dn ++ left = h ∧ r = [some (.tup (P.map rowD)), some (.tup (R.map rowsD)), some (.tup (h.map fun k : Nat => .int (k : Nat))), some (.ref st.length), x4, x5, x6, x7, x8] ∧ st' = st ++ [.dK (kvE e ks)] ∧ HL n (layF P R dn) e ks) ?_ ?_ h _ _ ⟨[], _, [], _, _, _, _, _, rfl, rfl, rfl, by
    have : layF P R [] = emp n := by unfold layF layG; rw [rl]; rfl
    rw [this]; exact HL.nil⟩
  · rintro a left r st' N hN ⟨dn, e, ks, x4, x5, x6, x7, x8, eh, rfl, rfl, hl⟩
    have Hd : Hist m n dn := by
      have nd := H.nd
      have lt := H.lt
      have fw := H.few
      rw [← eh] at nd lt fw
      rw [List.nodup_append] at nd
      rw [List.length_append] at fw
      exact ⟨nd.1, fun k hk => lt k (List.mem_append_left _ hk), by omega⟩
    obtain ⟨g, kk⟩ := layF_good S Hd
    have nd := H.nd
    have fw := H.few
    rw [← eh] at nd fw
    rw [List.nodup_append] at nd
    rw [List.length_append, List.length_cons] at fw
    have G := step_go S g kk (H.lt a (by rw [← eh]; simp)) (fun z => nd.2.2 a z a (by simp) rfl) (by omega)
    have ie := ins_eq S G
    have zz : layF P R (dn ++ [a]) = (ins P R (layF P R dn) a).1 := by
      unfold layF
      rw [layG_app]
      rfl
    generalize hL : (ins P R (layF P R dn) a) = LL at ie zz
    try simp only [e_var, e_C, e_op, e_neg, e_isN, e_notN, e_and, e_or, e_not, e_test, e_tAnd, e_tOr, e_tNot, e_tYes, e_if, e_aNil, e_aCons, e_tup, e_lst, e_lstN, e_len0, e_len1, e_len2, e_len3, e_len4, e_len5, e_cb, e_on1, e_on2, e_onI, e_onB, e_onO, e_onO0, e_onOO, e_I0, e_I, e_add, e_addT, e_addS, e_addL, e_addLR, e_addRL, e_addRR, e_mul, e_mulL, e_mulT, e_rev, e_revT, e_ix, e_eqI, e_eqS, e_eqB, e_neI, e_neS, e_neB, e_ltI, e_chain, e_len, e_abs, e_2I, e_tuple1, e_tuple2, e_tuple3, e_listT, e_listN, e_allR, e_seqT, e_seqK, e_seqL, e_isi, e_isB, e_notB, e_truth, e_next, e_drop, e_ret, e_retN, e_ifS, e_set, e_asg, e_par, e_nm, e_gsN, e_gsC, e_gTpK, e_gTpL, e_sum, e_maxL, e_minL, e_maxDef, e_int, e_intB, e_aug, e_on3, e_par3, e_newK, e_getK, e_keyI, e_keyS, e_inK, e_ninK, e_putK, e_lenK, e_lstS, e_seqX, e_gTpT, e_oN, e_oS, e_sl, e_slT, e_slL, e_finT, e_finN, e_index, e_idxT, e_idxL, e_mIx, e_ixST, e_ixSL, e_mtL, e_w, e_w1, e_w2, e_wE, e_wZ, e_itK, e_itT, e_itL, e_itT2, e_itL2, e_lc, e_for, e_wipe0, e_wipe, e_okI, e_okR, e_gSb, List.getElem?_cons_zero, List.getElem?_cons_succ, List.set_cons_zero, List.set_cons_succ, e_getD, e_get1, e_lockK, e_dlockK, e_wItemsK, e_wKeysK, e_getR, e_inR, e_ninR, e_dictP, e_sortTs, e_maxTs, e_pop, e_lenSetL, e_gSbK]
    try dsimp only
    rw [e_seq]
    try simp only [e_var, e_C, e_op, e_neg, e_isN, e_notN, e_and, e_or, e_not, e_test, e_tAnd, e_tOr, e_tNot, e_tYes, e_if, e_aNil, e_aCons, e_tup, e_lst, e_lstN, e_len0, e_len1, e_len2, e_len3, e_len4, e_len5, e_cb, e_on1, e_on2, e_onI, e_onB, e_onO, e_onO0, e_onOO, e_I0, e_I, e_add, e_addT, e_addS, e_addL, e_addLR, e_addRL, e_addRR, e_mul, e_mulL, e_mulT, e_rev, e_revT, e_ix, e_eqI, e_eqS, e_eqB, e_neI, e_neS, e_neB, e_ltI, e_chain, e_len, e_abs, e_2I, e_tuple1, e_tuple2, e_tuple3, e_listT, e_listN, e_allR, e_seqT, e_seqK, e_seqL, e_isi, e_isB, e_notB, e_truth, e_next, e_drop, e_ret, e_retN, e_ifS, e_set, e_asg, e_par, e_nm, e_gsN, e_gsC, e_gTpK, e_gTpL, e_sum, e_maxL, e_minL, e_maxDef, e_int, e_intB, e_aug, e_on3, e_par3, e_newK, e_getK, e_keyI, e_keyS, e_inK, e_ninK, e_putK, e_lenK, e_lstS, e_seqX, e_gTpT, e_oN, e_oS, e_sl, e_slT, e_slL, e_finT, e_finN, e_index, e_idxT, e_idxL, e_mIx, e_ixST, e_ixSL, e_mtL, e_w, e_w1, e_w2, e_wE, e_wZ, e_itK, e_itT, e_itL, e_itT2, e_itL2, e_lc, e_for, e_wipe0, e_wipe, e_okI, e_okR, e_gSb, List.getElem?_cons_zero, List.getElem?_cons_succ, List.set_cons_zero, List.set_cons_succ, e_getD, e_get1, e_lockK, e_dlockK, e_wItemsK, e_wKeysK, e_getR, e_inR, e_ninR, e_dictP, e_sortTs, e_maxTs, e_pop, e_lenSetL, e_gSbK]
    try dsimp only
    rw [e_seq]
    try simp only [e_var, e_C, e_op, e_neg, e_isN, e_notN, e_and, e_or, e_not, e_test, e_tAnd, e_tOr, e_tNot, e_tYes, e_if, e_aNil, e_aCons, e_tup, e_lst, e_lstN, e_len0, e_len1, e_len2, e_len3, e_len4, e_len5, e_cb, e_on1, e_on2, e_onI, e_onB, e_onO, e_onO0, e_onOO, e_I0, e_I, e_add, e_addT, e_addS, e_addL, e_addLR, e_addRL, e_addRR, e_mul, e_mulL, e_mulT, e_rev, e_revT, e_ix, e_eqI, e_eqS, e_eqB, e_neI, e_neS, e_neB, e_ltI, e_chain, e_len, e_abs, e_2I, e_tuple1, e_tuple2, e_tuple3, e_listT, e_listN, e_allR, e_seqT, e_seqK, e_seqL, e_isi, e_isB, e_notB, e_truth, e_next, e_drop, e_ret, e_retN, e_ifS, e_set, e_asg, e_par, e_nm, e_gsN, e_gsC, e_gTpK, e_gTpL, e_sum, e_maxL, e_minL, e_maxDef, e_int, e_intB, e_aug, e_on3, e_par3, e_newK, e_getK, e_keyI, e_keyS, e_inK, e_ninK, e_putK, e_lenK, e_lstS, e_seqX, e_gTpT, e_oN, e_oS, e_sl, e_slT, e_slL, e_finT, e_finN, e_index, e_idxT, e_idxL, e_mIx, e_ixST, e_ixSL, e_mtL, e_w, e_w1, e_w2, e_wE, e_wZ, e_itK, e_itT, e_itL, e_itT2, e_itL2, e_lc, e_for, e_wipe0, e_wipe, e_okI, e_okR, e_gSb, List.getElem?_cons_zero, List.getElem?_cons_succ, List.set_cons_zero, List.set_cons_succ, e_getD, e_get1, e_lockK, e_dlockK, e_wItemsK, e_wKeysK, e_getR, e_inR, e_ninR, e_dictP, e_sortTs, e_maxTs, e_pop, e_lenSetL, e_gSbK]
    refine s_while (fun μ r st' => ∃ (sl : List Int) (x i : Nat) (e : Nat → Nat) (ks : List Nat) (pp : List (Nat × Nat)) (x7 x8 : Option D), r = [some (.tup (P.map rowD)), some (.tup (R.map rowsD)), some (.tup (h.map fun k : Nat => .int (k : Nat))), some (.ref st.length), some (.int (a : Nat)), some (.int (x : Nat)), some (.int (i : Nat)), x7, x8] ∧ st' = st ++ [.dK (kvE e ks)] ∧ HL n sl e ks ∧ Go m n P sl x i ∧ insG P R μ sl x i = some (LL.1, pp)) _ ⟨_, a, 0, e, ks, LL.2, _, _, rfl, rfl, hl, G, ie⟩ ?_
    rintro μ r st' N2 hN2 ⟨sl, x, i, e, ks, pp, x7, x8, rfl, rfl, hl, G, ie⟩
    have sn := (S.pr_at G.ha G.hi).2
    have ai : atI ((P.getD x []).map D.int) (i : Int) = some (.int (pr P x i : Nat)) := at_map (S.pr_at G.ha G.hi).1
    have own : ∀ y : List (Key × D), (st ++ [O.dK y])[st.length]? = some (.dK y) := fun y => by simp
    have Ly := G.g.lay
    have kl := hl.len
    try simp only [e_var, e_C, e_op, e_neg, e_isN, e_notN, e_and, e_or, e_not, e_test, e_tAnd, e_tOr, e_tNot, e_tYes, e_if, e_aNil, e_aCons, e_tup, e_lst, e_lstN, e_len0, e_len1, e_len2, e_len3, e_len4, e_len5, e_cb, e_on1, e_on2, e_onI, e_onB, e_onO, e_onO0, e_onOO, e_I0, e_I, e_add, e_addT, e_addS, e_addL, e_addLR, e_addRL, e_addRR, e_mul, e_mulL, e_mulT, e_rev, e_revT, e_ix, e_eqI, e_eqS, e_eqB, e_neI, e_neS, e_neB, e_ltI, e_chain, e_len, e_abs, e_2I, e_tuple1, e_tuple2, e_tuple3, e_listT, e_listN, e_allR, e_seqT, e_seqK, e_seqL, e_isi, e_isB, e_notB, e_truth, e_next, e_drop, e_ret, e_retN, e_ifS, e_set, e_asg, e_par, e_nm, e_gsN, e_gsC, e_gTpK, e_gTpL, e_sum, e_maxL, e_minL, e_maxDef, e_int, e_intB, e_aug, e_on3, e_par3, e_newK, e_getK, e_keyI, e_keyS, e_inK, e_ninK, e_putK, e_lenK, e_lstS, e_seqX, e_gTpT, e_oN, e_oS, e_sl, e_slT, e_slL, e_finT, e_finN, e_index, e_idxT, e_idxL, e_mIx, e_ixST, e_ixSL, e_mtL, e_w, e_w1, e_w2, e_wE, e_wZ, e_itK, e_itT, e_itL, e_itT2, e_itL2, e_lc, e_for, e_wipe0, e_wipe, e_okI, e_okR, e_gSb, List.getElem?_cons_zero, List.getElem?_cons_succ, List.set_cons_zero, List.set_cons_succ, e_getD, e_get1, e_lockK, e_dlockK, e_wItemsK, e_wKeysK, e_getR, e_inR, e_ninR, e_dictP, e_sortTs, e_maxTs, e_pop, e_lenSetL, e_gSbK, S.p_at G.ha, ai]
    rw [onDk_ref (own _), kvE_val]
    by_cases c : pr P x i ∈ ks
    · rw [if_pos c, if_pos (by simp)]
      have tk : At sl (pr P x i) (e (pr P x i)) := (hl.at_ _ _).mpr ⟨c, rfl⟩
      have om := (Ly.key tk).1
      have ne : x ≠ e (pr P x i) := fun z => G.fr _ (by rw [z]; exact tk)
      try dsimp only
      rw [e_seq]
      try simp only [e_var, e_C, e_op, e_neg, e_isN, e_notN, e_and, e_or, e_not, e_test, e_tAnd, e_tOr, e_tNot, e_tYes, e_if, e_aNil, e_aCons, e_tup, e_lst, e_lstN, e_len0, e_len1, e_len2, e_len3, e_len4, e_len5, e_cb, e_on1, e_on2, e_onI, e_onB, e_onO, e_onO0, e_onOO, e_I0, e_I, e_add, e_addT, e_addS, e_addL, e_addLR, e_addRL, e_addRR, e_mul, e_mulL, e_mulT, e_rev, e_revT, e_ix, e_eqI, e_eqS, e_eqB, e_neI, e_neS, e_neB, e_ltI, e_chain, e_len, e_abs, e_2I, e_tuple1, e_tuple2, e_tuple3, e_listT, e_listN, e_allR, e_seqT, e_seqK, e_seqL, e_isi, e_isB, e_notB, e_truth, e_next, e_drop, e_ret, e_retN, e_ifS, e_set, e_asg, e_par, e_nm, e_gsN, e_gsC, e_gTpK, e_gTpL, e_sum, e_maxL, e_minL, e_maxDef, e_int, e_intB, e_aug, e_on3, e_par3, e_newK, e_getK, e_keyI, e_keyS, e_inK, e_ninK, e_putK, e_lenK, e_lstS, e_seqX, e_gTpT, e_oN, e_oS, e_sl, e_slT, e_slL, e_finT, e_finN, e_index, e_idxT, e_idxL, e_mIx, e_ixST, e_ixSL, e_mtL, e_w, e_w1, e_w2, e_wE, e_wZ, e_itK, e_itT, e_itL, e_itT2, e_itL2, e_lc, e_for, e_wipe0, e_wipe, e_okI, e_okR, e_gSb, List.getElem?_cons_zero, List.getElem?_cons_succ, List.set_cons_zero, List.set_cons_succ, e_getD, e_get1, e_lockK, e_dlockK, e_wItemsK, e_wKeysK, e_getR, e_inR, e_ninR, e_dictP, e_sortTs, e_maxTs, e_pop, e_lenSetL, e_gSbK, S.p_at G.ha, ai]
      try dsimp only
      rw [e_seq]
      try simp only [e_var, e_C, e_op, e_neg, e_isN, e_notN, e_and, e_or, e_not, e_test, e_tAnd, e_tOr, e_tNot, e_tYes, e_if, e_aNil, e_aCons, e_tup, e_lst, e_lstN, e_len0, e_len1, e_len2, e_len3, e_len4, e_len5, e_cb, e_on1, e_on2, e_onI, e_onB, e_onO, e_onO0, e_onOO, e_I0, e_I, e_add, e_addT, e_addS, e_addL, e_addLR, e_addRL, e_addRR, e_mul, e_mulL, e_mulT, e_rev, e_revT, e_ix, e_eqI, e_eqS, e_eqB, e_neI, e_neS, e_neB, e_ltI, e_chain, e_len, e_abs, e_2I, e_tuple1, e_tuple2, e_tuple3, e_listT, e_listN, e_allR, e_seqT, e_seqK, e_seqL, e_isi, e_isB, e_notB, e_truth, e_next, e_drop, e_ret, e_retN, e_ifS, e_set, e_asg, e_par, e_nm, e_gsN, e_gsC, e_gTpK, e_gTpL, e_sum, e_maxL, e_minL, e_maxDef, e_int, e_intB, e_aug, e_on3, e_par3, e_newK, e_getK, e_keyI, e_keyS, e_inK, e_ninK, e_putK, e_lenK, e_lstS, e_seqX, e_gTpT, e_oN, e_oS, e_sl, e_slT, e_slL, e_finT, e_finN, e_index, e_idxT, e_idxL, e_mIx, e_ixST, e_ixSL, e_mtL, e_w, e_w1, e_w2, e_wE, e_wZ, e_itK, e_itT, e_itL, e_itT2, e_itL2, e_lc, e_for, e_wipe0, e_wipe, e_okI, e_okR, e_gSb, List.getElem?_cons_zero, List.getElem?_cons_succ, List.set_cons_zero, List.set_cons_succ, e_getD, e_get1, e_lockK, e_dlockK, e_wItemsK, e_wKeysK, e_getR, e_inR, e_ninR, e_dictP, e_sortTs, e_maxTs, e_pop, e_lenSetL, e_gSbK]
      rw [onDk_ref (own _), kvE_val, if_pos c, e_onO]
      try dsimp only
      rw [e_seq]
      try simp only [e_var, e_C, e_op, e_neg, e_isN, e_notN, e_and, e_or, e_not, e_test, e_tAnd, e_tOr, e_tNot, e_tYes, e_if, e_aNil, e_aCons, e_tup, e_lst, e_lstN, e_len0, e_len1, e_len2, e_len3, e_len4, e_len5, e_cb, e_on1, e_on2, e_onI, e_onB, e_onO, e_onO0, e_onOO, e_I0, e_I, e_add, e_addT, e_addS, e_addL, e_addLR, e_addRL, e_addRR, e_mul, e_mulL, e_mulT, e_rev, e_revT, e_ix, e_eqI, e_eqS, e_eqB, e_neI, e_neS, e_neB, e_ltI, e_chain, e_len, e_abs, e_2I, e_tuple1, e_tuple2, e_tuple3, e_listT, e_listN, e_allR, e_seqT, e_seqK, e_seqL, e_isi, e_isB, e_notB, e_truth, e_next, e_drop, e_ret, e_retN, e_ifS, e_set, e_asg, e_par, e_nm, e_gsN, e_gsC, e_gTpK, e_gTpL, e_sum, e_maxL, e_minL, e_maxDef, e_int, e_intB, e_aug, e_on3, e_par3, e_newK, e_getK, e_keyI, e_keyS, e_inK, e_ninK, e_putK, e_lenK, e_lstS, e_seqX, e_gTpT, e_oN, e_oS, e_sl, e_slT, e_slL, e_finT, e_finN, e_index, e_idxT, e_idxL, e_mIx, e_ixST, e_ixSL, e_mtL, e_w, e_w1, e_w2, e_wE, e_wZ, e_itK, e_itT, e_itL, e_itT2, e_itL2, e_lc, e_for, e_wipe0, e_wipe, e_okI, e_okR, e_gSb, List.getElem?_cons_zero, List.getElem?_cons_succ, List.set_cons_zero, List.set_cons_succ, e_getD, e_get1, e_lockK, e_dlockK, e_wItemsK, e_wKeysK, e_getR, e_inR, e_ninR, e_dictP, e_sortTs, e_maxTs, e_pop, e_lenSetL, e_gSbK, S.r_at sn, S.t_at sn om]
      refine nin_row ?_
      cases μ with
      | zero => cases ie
      | succ f =>
        rw [insG_taken tk] at ie
        have bn := S.bt_not sn G.ha om ne
        cases b : bt R (pr P x i) x (e (pr P x i)) with
        | true =>
          rw [b] at bn ie
          rw [if_pos rfl] at ie
          obtain ⟨y, ey, hy⟩ := Option.map_eq_some_iff.mp ie
          have nb : decide ((x : Int) ∈ (R.getD (pr P x i) []).getD (e (pr P x i)) []) = false := by
            have z : bt R (pr P x i) (e (pr P x i)) x = false := by
              cases w : bt R (pr P x i) (e (pr P x i)) x with
              | false => rfl
              | true => rw [w] at bn; cases bn
            unfold bt at z
            exact z
          rw [nb, e_onB, if_pos (by decide)]
          try dsimp only
          rw [e_seq]
          try simp only [e_var, e_C, e_op, e_neg, e_isN, e_notN, e_and, e_or, e_not, e_test, e_tAnd, e_tOr, e_tNot, e_tYes, e_if, e_aNil, e_aCons, e_tup, e_lst, e_lstN, e_len0, e_len1, e_len2, e_len3, e_len4, e_len5, e_cb, e_on1, e_on2, e_onI, e_onB, e_onO, e_onO0, e_onOO, e_I0, e_I, e_add, e_addT, e_addS, e_addL, e_addLR, e_addRL, e_addRR, e_mul, e_mulL, e_mulT, e_rev, e_revT, e_ix, e_eqI, e_eqS, e_eqB, e_neI, e_neS, e_neB, e_ltI, e_chain, e_len, e_abs, e_2I, e_tuple1, e_tuple2, e_tuple3, e_listT, e_listN, e_allR, e_seqT, e_seqK, e_seqL, e_isi, e_isB, e_notB, e_truth, e_next, e_drop, e_ret, e_retN, e_ifS, e_set, e_asg, e_par, e_nm, e_gsN, e_gsC, e_gTpK, e_gTpL, e_sum, e_maxL, e_minL, e_maxDef, e_int, e_intB, e_aug, e_on3, e_par3, e_newK, e_getK, e_keyI, e_keyS, e_inK, e_ninK, e_putK, e_lenK, e_lstS, e_seqX, e_gTpT, e_oN, e_oS, e_sl, e_slT, e_slL, e_finT, e_finN, e_index, e_idxT, e_idxL, e_mIx, e_ixST, e_ixSL, e_mtL, e_w, e_w1, e_w2, e_wE, e_wZ, e_itK, e_itT, e_itL, e_itT2, e_itL2, e_lc, e_for, e_wipe0, e_wipe, e_okI, e_okR, e_gSb, List.getElem?_cons_zero, List.getElem?_cons_succ, List.set_cons_zero, List.set_cons_succ, e_getD, e_get1, e_lockK, e_dlockK, e_wItemsK, e_wKeysK, e_getR, e_inR, e_ninR, e_dictP, e_sortTs, e_maxTs, e_pop, e_lenSetL, e_gSbK]
          rw [onDk_ref (own _)]
          refine ⟨by omega, ?_⟩
          obtain ⟨ks2, ep, h2⟩ := hl.put Ly.len (a := x) sn
          rw [ep, List.set_append_right _ _ (by omega), Nat.sub_self]
          try simp only [e_var, e_C, e_op, e_neg, e_isN, e_notN, e_and, e_or, e_not, e_test, e_tAnd, e_tOr, e_tNot, e_tYes, e_if, e_aNil, e_aCons, e_tup, e_lst, e_lstN, e_len0, e_len1, e_len2, e_len3, e_len4, e_len5, e_cb, e_on1, e_on2, e_onI, e_onB, e_onO, e_onO0, e_onOO, e_I0, e_I, e_add, e_addT, e_addS, e_addL, e_addLR, e_addRL, e_addRR, e_mul, e_mulL, e_mulT, e_rev, e_revT, e_ix, e_eqI, e_eqS, e_eqB, e_neI, e_neS, e_neB, e_ltI, e_chain, e_len, e_abs, e_2I, e_tuple1, e_tuple2, e_tuple3, e_listT, e_listN, e_allR, e_seqT, e_seqK, e_seqL, e_isi, e_isB, e_notB, e_truth, e_next, e_drop, e_ret, e_retN, e_ifS, e_set, e_asg, e_par, e_nm, e_gsN, e_gsC, e_gTpK, e_gTpL, e_sum, e_maxL, e_minL, e_maxDef, e_int, e_intB, e_aug, e_on3, e_par3, e_newK, e_getK, e_keyI, e_keyS, e_inK, e_ninK, e_putK, e_lenK, e_lstS, e_seqX, e_gTpT, e_oN, e_oS, e_sl, e_slT, e_slL, e_finT, e_finN, e_index, e_idxT, e_idxL, e_mIx, e_ixST, e_ixSL, e_mtL, e_w, e_w1, e_w2, e_wE, e_wZ, e_itK, e_itT, e_itL, e_itT2, e_itL2, e_lc, e_for, e_wipe0, e_wipe, e_okI, e_okR, e_gSb, List.getElem?_cons_zero, List.getElem?_cons_succ, List.set_cons_zero, List.set_cons_succ, e_getD, e_get1, e_lockK, e_dlockK, e_wItemsK, e_wKeysK, e_getR, e_inR, e_ninR, e_dictP, e_sortTs, e_maxTs, e_pop, e_lenSetL, e_gSbK, S.p_at om, intsD_ints, (S.rk_at om sn).2.2]
          refine ⟨trivial, ?_⟩
          refine hN2 f _ _ (Nat.lt_succ_self f) (.inl ⟨sl.set (pr P x i) (x : Int), e (pr P x i), rk P (e (pr P x i)) (pr P x i) + 1, _, ks2, y.2, some (.int (pr P x i : Nat)), some (.int (e (pr P x i) : Nat)), ?_, rfl, h2, G.swap S tk, ?_⟩)
          · rfl
          · rw [ey]
            have z := congrArg Prod.fst hy
            have z2 : y.1 = LL.1 := z
            rw [← z2]
        | false =>
          rw [b] at bn ie
          rw [if_neg (by decide)] at ie
          have nb : decide ((x : Int) ∈ (R.getD (pr P x i) []).getD (e (pr P x i)) []) = true := by
            have z : bt R (pr P x i) (e (pr P x i)) x = true := by
              cases w : bt R (pr P x i) (e (pr P x i)) x with
              | true => rfl
              | false => rw [w] at bn; cases bn
            unfold bt at z
            exact z
          rw [nb, e_onB, if_neg (by decide)]
          try simp only [e_var, e_C, e_op, e_neg, e_isN, e_notN, e_and, e_or, e_not, e_test, e_tAnd, e_tOr, e_tNot, e_tYes, e_if, e_aNil, e_aCons, e_tup, e_lst, e_lstN, e_len0, e_len1, e_len2, e_len3, e_len4, e_len5, e_cb, e_on1, e_on2, e_onI, e_onB, e_onO, e_onO0, e_onOO, e_I0, e_I, e_add, e_addT, e_addS, e_addL, e_addLR, e_addRL, e_addRR, e_mul, e_mulL, e_mulT, e_rev, e_revT, e_ix, e_eqI, e_eqS, e_eqB, e_neI, e_neS, e_neB, e_ltI, e_chain, e_len, e_abs, e_2I, e_tuple1, e_tuple2, e_tuple3, e_listT, e_listN, e_allR, e_seqT, e_seqK, e_seqL, e_isi, e_isB, e_notB, e_truth, e_next, e_drop, e_ret, e_retN, e_ifS, e_set, e_asg, e_par, e_nm, e_gsN, e_gsC, e_gTpK, e_gTpL, e_sum, e_maxL, e_minL, e_maxDef, e_int, e_intB, e_aug, e_on3, e_par3, e_newK, e_getK, e_keyI, e_keyS, e_inK, e_ninK, e_putK, e_lenK, e_lstS, e_seqX, e_gTpT, e_oN, e_oS, e_sl, e_slT, e_slL, e_finT, e_finN, e_index, e_idxT, e_idxL, e_mIx, e_ixST, e_ixSL, e_mtL, e_w, e_w1, e_w2, e_wE, e_wZ, e_itK, e_itT, e_itL, e_itT2, e_itL2, e_lc, e_for, e_wipe0, e_wipe, e_okI, e_okR, e_gSb, List.getElem?_cons_zero, List.getElem?_cons_succ, List.set_cons_zero, List.set_cons_succ, e_getD, e_get1, e_lockK, e_dlockK, e_wItemsK, e_wKeysK, e_getR, e_inR, e_ninR, e_dictP, e_sortTs, e_maxTs, e_pop, e_lenSetL, e_gSbK]
          refine hN2 f _ _ (Nat.lt_succ_self f) (.inl ⟨sl, x, i + 1, e, ks, pp, some (.int (pr P x i : Nat)), some (.int (e (pr P x i) : Nat)), ?_, rfl, hl, G.on S tk, ie⟩)
          rfl
    · rw [if_neg c, if_neg (by simp)]
      have fr : sl[pr P x i]? = some (-1) := by
        rcases Ly.either sn with z | ⟨k, a⟩
        · exact z
        · exact absurd ((hl.at_ _ _).mp a).1 c
      cases μ with
      | zero => cases ie
      | succ f =>
        rw [insG_free fr] at ie
        try simp only [e_var, e_C, e_op, e_neg, e_isN, e_notN, e_and, e_or, e_not, e_test, e_tAnd, e_tOr, e_tNot, e_tYes, e_if, e_aNil, e_aCons, e_tup, e_lst, e_lstN, e_len0, e_len1, e_len2, e_len3, e_len4, e_len5, e_cb, e_on1, e_on2, e_onI, e_onB, e_onO, e_onO0, e_onOO, e_I0, e_I, e_add, e_addT, e_addS, e_addL, e_addLR, e_addRL, e_addRR, e_mul, e_mulL, e_mulT, e_rev, e_revT, e_ix, e_eqI, e_eqS, e_eqB, e_neI, e_neS, e_neB, e_ltI, e_chain, e_len, e_abs, e_2I, e_tuple1, e_tuple2, e_tuple3, e_listT, e_listN, e_allR, e_seqT, e_seqK, e_seqL, e_isi, e_isB, e_notB, e_truth, e_next, e_drop, e_ret, e_retN, e_ifS, e_set, e_asg, e_par, e_nm, e_gsN, e_gsC, e_gTpK, e_gTpL, e_sum, e_maxL, e_minL, e_maxDef, e_int, e_intB, e_aug, e_on3, e_par3, e_newK, e_getK, e_keyI, e_keyS, e_inK, e_ninK, e_putK, e_lenK, e_lstS, e_seqX, e_gTpT, e_oN, e_oS, e_sl, e_slT, e_slL, e_finT, e_finN, e_index, e_idxT, e_idxL, e_mIx, e_ixST, e_ixSL, e_mtL, e_w, e_w1, e_w2, e_wE, e_wZ, e_itK, e_itT, e_itL, e_itT2, e_itL2, e_lc, e_for, e_wipe0, e_wipe, e_okI, e_okR, e_gSb, List.getElem?_cons_zero, List.getElem?_cons_succ, List.set_cons_zero, List.set_cons_succ, e_getD, e_get1, e_lockK, e_dlockK, e_wItemsK, e_wKeysK, e_getR, e_inR, e_ninR, e_dictP, e_sortTs, e_maxTs, e_pop, e_lenSetL, e_gSbK, S.p_at G.ha, ai]
        rw [onDk_ref (own _)]
        refine ⟨by omega, ?_⟩
        obtain ⟨ks2, ep, h2⟩ := hl.put Ly.len (a := x) sn
        rw [ep, List.set_append_right _ _ (by omega), Nat.sub_self]
        have eL : sl.set (pr P x i) (x : Int) = layF P R (dn ++ [a]) := by
          rw [zz]
          exact congrArg Prod.fst (Option.some.inj ie)
        rw [eL] at h2
        exact hN _ _ (.inl ⟨dn ++ [a], _, ks2, _, _, _, _, _, by rw [List.append_assoc]; exact eh, rfl, rfl, h2⟩)
  · rintro r st' ⟨dn, e, ks, x4, x5, x6, x7, x8, eh, rfl, rfl, hl⟩
    rw [List.append_nil] at eh
    subst eh
    try simp only [e_var, e_C, e_op, e_neg, e_isN, e_notN, e_and, e_or, e_not, e_test, e_tAnd, e_tOr, e_tNot, e_tYes, e_if, e_aNil, e_aCons, e_tup, e_lst, e_lstN, e_len0, e_len1, e_len2, e_len3, e_len4, e_len5, e_cb, e_on1, e_on2, e_onI, e_onB, e_onO, e_onO0, e_onOO, e_I0, e_I, e_add, e_addT, e_addS, e_addL, e_addLR, e_addRL, e_addRR, e_mul, e_mulL, e_mulT, e_rev, e_revT, e_ix, e_eqI, e_eqS, e_eqB, e_neI, e_neS, e_neB, e_ltI, e_chain, e_len, e_abs, e_2I, e_tuple1, e_tuple2, e_tuple3, e_listT, e_listN, e_allR, e_seqT, e_seqK, e_seqL, e_isi, e_isB, e_notB, e_truth, e_next, e_drop, e_ret, e_retN, e_ifS, e_set, e_asg, e_par, e_nm, e_gsN, e_gsC, e_gTpK, e_gTpL, e_sum, e_maxL, e_minL, e_maxDef, e_int, e_intB, e_aug, e_on3, e_par3, e_newK, e_getK, e_keyI, e_keyS, e_inK, e_ninK, e_putK, e_lenK, e_lstS, e_seqX, e_gTpT, e_oN, e_oS, e_sl, e_slT, e_slL, e_finT, e_finN, e_index, e_idxT, e_idxL, e_mIx, e_ixST, e_ixSL, e_mtL, e_w, e_w1, e_w2, e_wE, e_wZ, e_itK, e_itT, e_itL, e_itT2, e_itL2, e_lc, e_for, e_wipe0, e_wipe, e_okI, e_okR, e_gSb, List.getElem?_cons_zero, List.getElem?_cons_succ, List.set_cons_zero, List.set_cons_succ, e_getD, e_get1, e_lockK, e_dlockK, e_wItemsK, e_wKeysK, e_getR, e_inR, e_ninR, e_dictP, e_sortTs, e_maxTs, e_pop, e_lenSetL, e_gSbK]
    exact .inl (q e ks hl)
end DL
--ELX
namespace DL
open PySem PySem.Spec PyProof.Rows L2 LamX PySem.W SL
end DL
--ELX
namespace DL
open PySem PySem.Spec PyProof.Rows L2 LamX PySem.W SL
section
variable {m n : Nat} {P : List (List Int)} {R : List (List (List Int))} {h : List Nat} {s : Nat}
end
end DL
--ELX
namespace DL
open PySem PySem.Spec PyProof.Rows L2 LamX PySem.W SL
section
variable {m n : Nat} {P : List (List Int)} {R : List (List (List Int))} {A B l : List Int} {e : Nat → Nat} {ks : List Nat}
end
end DL
--ELX
namespace DL
open PySem PySem.Spec PyProof.Rows L2 LamX PySem.W SL
section
variable {m n : Nat} {P : List (List Int)} {R : List (List (List Int))} {A B J : List Int} {h : List Nat}
end
end DL
--ELX
namespace DL
open PySem PySem.Spec PyProof.Rows L2 LamX PySem.W SL
end DL
namespace DL
open PySem PySem.Spec PyProof.Rows L2 LamX PySem.W SL
end DL
--ELX
namespace DL
open PySem PySem.Spec PyProof.Rows L2 LamX PySem.W SL
section
variable {m n : Nat} {P : List (List Int)} {R : List (List (List Int))} {ss h : List Nat} {l : List Int}
end
end DL
--ELX
namespace DL
open PySem PySem.Spec PyProof.Rows L2 LamX PySem.W SL
theorem range_row {sl : List Int} {n : Nat} (l : sl.length = n) : (List.range n).map (fun s => D.int (sl.getD s (-1))) = sl.map D.int := by
  refine List.ext_getElem? fun i => ?_
  rw [List.getElem?_map, List.getElem?_map]
  rcases Nat.lt_or_ge i n with q | q
  · rw [List.getElem?_range q, List.getElem?_eq_getElem (by omega)]
    show some (D.int (sl.getD i (-1))) = some (D.int sl[i])
    rw [List.getD_eq_getElem?_getD, List.getElem?_eq_getElem (by omega)]
    rfl
  · rw [List.getElem?_eq_none (by simpa using q), List.getElem?_eq_none (by omega)]
    rfl
theorem HL.get {m n : Nat} {sl : List Int} {e : Nat → Nat} {ks : List Nat} (h : HL n sl e ks) (L : Lay m n sl) {s : Nat} (sn : s < n) : (if s ∈ ks then some (D.int (e s : Nat)) else none).getD (.int (-1)) = .int (sl.getD s (-1)) := by
  by_cases c : s ∈ ks
  · rw [if_pos c]
    have a := (h.at_ s (e s)).mpr ⟨c, rfl⟩
    unfold At at a
    rw [List.getD_eq_getElem?_getD, a]
    rfl
  · rw [if_neg c]
    have := (getD_free L sn).mpr fun k a => c ((h.at_ s k).mp a).1
    rw [this]
    rfl
def g_asRow : DRs := fun ds st Q => ∃ (d m n : Nat) (sl : List Int) (e : Nat → Nat) (ks : List Nat), ds = [.ref d, .int (n : Nat)] ∧ st[d]? = some (.dK (kvE e ks)) ∧ HL n sl e ks ∧ Lay m n sl ∧ n ≤ 60 ∧ Q (rowD sl) st
theorem ar_asRow (ds : List D) (st : DSt) (Q : DK) (h : g_asRow ds st Q) : ds.length = 2 := by
  obtain ⟨_, _, _, _, _, _, rfl, _⟩ := h
  rfl
theorem sem_asRow (ds : List D) (st : DSt) (Q : DK) (h : g_asRow ds st Q) : F__law_as_row { nx := fun _ st' => Rt st Q .non st', rt := Rt st Q } (startD 3 ds) st := by
  obtain ⟨d, m, n, sl, e, ks, rfl, own, hl, L, n60, q⟩ := h
  have st3 : startD 3 [D.ref d, D.int (n : Nat)] = [some (.ref d), some (.int (n : Nat)), none] := rfl
  have big : (1000 : Nat) ≤ sizeLine := by decide
  simp only [F__law_as_row, st3]
  try simp only [e_var, e_C, e_op, e_neg, e_isN, e_notN, e_and, e_or, e_not, e_test, e_tAnd, e_tOr, e_tNot, e_tYes, e_if, e_aNil, e_aCons, e_tup, e_lst, e_lstN, e_len0, e_len1, e_len2, e_len3, e_len4, e_len5, e_cb, e_on1, e_on2, e_onI, e_onB, e_onO, e_onO0, e_onOO, e_I0, e_I, e_add, e_addT, e_addS, e_addL, e_addLR, e_addRL, e_addRR, e_mul, e_mulL, e_mulT, e_rev, e_revT, e_ix, e_eqI, e_eqS, e_eqB, e_neI, e_neS, e_neB, e_ltI, e_chain, e_len, e_abs, e_2I, e_tuple1, e_tuple2, e_tuple3, e_listT, e_listN, e_allR, e_seqT, e_seqK, e_seqL, e_isi, e_isB, e_notB, e_truth, e_next, e_drop, e_ret, e_retN, e_ifS, e_set, e_asg, e_par, e_nm, e_gsN, e_gsC, e_gTpK, e_gTpL, e_sum, e_maxL, e_minL, e_maxDef, e_int, e_intB, e_aug, e_on3, e_par3, e_newK, e_getK, e_keyI, e_keyS, e_inK, e_ninK, e_putK, e_lenK, e_lstS, e_seqX, e_gTpT, e_oN, e_oS, e_sl, e_slT, e_slL, e_finT, e_finN, e_index, e_idxT, e_idxL, e_mIx, e_ixST, e_ixSL, e_mtL, e_w, e_w1, e_w2, e_wE, e_wZ, e_itK, e_itT, e_itL, e_itT2, e_itL2, e_lc, e_for, e_wipe0, e_wipe, e_okI, e_okR, e_gSb, List.getElem?_cons_zero, List.getElem?_cons_succ, List.set_cons_zero, List.set_cons_succ, e_getD, e_get1, e_lockK, e_dlockK, e_wItemsK, e_wKeysK, e_getR, e_inR, e_ninR, e_dictP, e_sortTs, e_maxTs, e_pop, e_lenSetL, e_gSbK, Int.toNat_natCast]
  refine ⟨⟨by omega, by omega⟩, by rw [rgD_length]; omega, ?_⟩
  refine lc_rng (fun s => .int (sl.getD s (-1))) (fun s ls Q2 q2 => ?_) (tuple_end ?_)
  · try simp only [e_var, e_C, e_op, e_neg, e_isN, e_notN, e_and, e_or, e_not, e_test, e_tAnd, e_tOr, e_tNot, e_tYes, e_if, e_aNil, e_aCons, e_tup, e_lst, e_lstN, e_len0, e_len1, e_len2, e_len3, e_len4, e_len5, e_cb, e_on1, e_on2, e_onI, e_onB, e_onO, e_onO0, e_onOO, e_I0, e_I, e_add, e_addT, e_addS, e_addL, e_addLR, e_addRL, e_addRR, e_mul, e_mulL, e_mulT, e_rev, e_revT, e_ix, e_eqI, e_eqS, e_eqB, e_neI, e_neS, e_neB, e_ltI, e_chain, e_len, e_abs, e_2I, e_tuple1, e_tuple2, e_tuple3, e_listT, e_listN, e_allR, e_seqT, e_seqK, e_seqL, e_isi, e_isB, e_notB, e_truth, e_next, e_drop, e_ret, e_retN, e_ifS, e_set, e_asg, e_par, e_nm, e_gsN, e_gsC, e_gTpK, e_gTpL, e_sum, e_maxL, e_minL, e_maxDef, e_int, e_intB, e_aug, e_on3, e_par3, e_newK, e_getK, e_keyI, e_keyS, e_inK, e_ninK, e_putK, e_lenK, e_lstS, e_seqX, e_gTpT, e_oN, e_oS, e_sl, e_slT, e_slL, e_finT, e_finN, e_index, e_idxT, e_idxL, e_mIx, e_ixST, e_ixSL, e_mtL, e_w, e_w1, e_w2, e_wE, e_wZ, e_itK, e_itT, e_itL, e_itT2, e_itL2, e_lc, e_for, e_wipe0, e_wipe, e_okI, e_okR, e_gSb, List.getElem?_cons_zero, List.getElem?_cons_succ, List.set_cons_zero, List.set_cons_succ, e_getD, e_get1, e_lockK, e_dlockK, e_wItemsK, e_wKeysK, e_getR, e_inR, e_ninR, e_dictP, e_sortTs, e_maxTs, e_pop, e_lenSetL, e_gSbK]
    refine ⟨by unfold DkD; rw [onDk_ref own]; trivial, ?_⟩
    rw [onDk_ref own, kvE_val, hl.get L ls]
    exact q2
  · rw [range_row L.len]
    exact .inl q
def g_readsX : DRs := fun ds st Q => ∃ (d m n : Nat) (P : List (List Int)) (R : List (List (List Int))) (sl : List Int) (e : Nat → Nat) (ks : List Nat) (a : Nat), ds = [rowsD P, tabsD R, .ref d, .int (a : Nat)] ∧ st[d]? = some (.dK (kvE e ks)) ∧ HL n sl e ks ∧ Setg m n P R ∧ Lay m n sl ∧ a < m ∧ (a : Int) ∉ sl ∧ n ≤ 60 ∧ Q (.int ((seekF P R sl n a n 0).2 : Nat)) st
theorem ar_readsX (ds : List D) (st : DSt) (Q : DK) (h : g_readsX ds st Q) : ds.length = 4 := by
  obtain ⟨_, _, _, _, _, _, _, _, _, rfl, _⟩ := h
  rfl
set_option maxHeartbeats 2000000 in
theorem sem_readsX (ds : List D) (st : DSt) (Q : DK) (h : g_readsX ds st Q) : F__law_reads { nx := fun _ st' => Rt st Q .non st', rt := Rt st Q } (startD 6 ds) st := by
  obtain ⟨d, m, n, P, R, sl, e, ks, a, rfl, own, hl, S, L, am, no, n60, q⟩ := h
  have st6 : startD 6 [rowsD P, tabsD R, D.ref d, D.int (a : Nat)] = [some (.tup (P.map rowD)), some (.tup (R.map rowsD)), some (.ref d), some (.int (a : Nat)), none, none] := rfl
  have lo := (S.ord am).len
  simp only [F__law_reads, st6]
  try dsimp only
  rw [e_seq]
  try simp only [e_var, e_C, e_op, e_neg, e_isN, e_notN, e_and, e_or, e_not, e_test, e_tAnd, e_tOr, e_tNot, e_tYes, e_if, e_aNil, e_aCons, e_tup, e_lst, e_lstN, e_len0, e_len1, e_len2, e_len3, e_len4, e_len5, e_cb, e_on1, e_on2, e_onI, e_onB, e_onO, e_onO0, e_onOO, e_I0, e_I, e_add, e_addT, e_addS, e_addL, e_addLR, e_addRL, e_addRR, e_mul, e_mulL, e_mulT, e_rev, e_revT, e_ix, e_eqI, e_eqS, e_eqB, e_neI, e_neS, e_neB, e_ltI, e_chain, e_len, e_abs, e_2I, e_tuple1, e_tuple2, e_tuple3, e_listT, e_listN, e_allR, e_seqT, e_seqK, e_seqL, e_isi, e_isB, e_notB, e_truth, e_next, e_drop, e_ret, e_retN, e_ifS, e_set, e_asg, e_par, e_nm, e_gsN, e_gsC, e_gTpK, e_gTpL, e_sum, e_maxL, e_minL, e_maxDef, e_int, e_intB, e_aug, e_on3, e_par3, e_newK, e_getK, e_keyI, e_keyS, e_inK, e_ninK, e_putK, e_lenK, e_lstS, e_seqX, e_gTpT, e_oN, e_oS, e_sl, e_slT, e_slL, e_finT, e_finN, e_index, e_idxT, e_idxL, e_mIx, e_ixST, e_ixSL, e_mtL, e_w, e_w1, e_w2, e_wE, e_wZ, e_itK, e_itT, e_itL, e_itT2, e_itL2, e_lc, e_for, e_wipe0, e_wipe, e_okI, e_okR, e_gSb, List.getElem?_cons_zero, List.getElem?_cons_succ, List.set_cons_zero, List.set_cons_succ, e_getD, e_get1, e_lockK, e_dlockK, e_wItemsK, e_wKeysK, e_getR, e_inR, e_ninR, e_dictP, e_sortTs, e_maxTs, e_pop, e_lenSetL, e_gSbK, S.p_at am]
  generalize hSK : seekF P R sl n a n 0 = SK at q
  refine for_inv (fun left r st' => ∃ (i : Nat) (x4 x5 : Option D), left = (enumD ((P.getD a []).map D.int)).drop i ∧ r = [some (.tup (P.map rowD)), some (.tup (R.map rowsD)), some (.ref d), some (.int (a : Nat)), x4, x5] ∧ st = st' ∧ i ≤ n ∧ SK = seekF P R sl n a (n - i) i) ?_ ?_ _ _ _ ⟨0, _, _, rfl, rfl, rfl, Nat.zero_le _, hSK.symm⟩
  · rintro dd left r st' N hN ⟨i, x4, x5, el, rfl, rfl, li, sk⟩
    obtain ⟨x, ex, rfl, el2⟩ := enum_dropG el
    rw [List.getElem?_map] at ex
    obtain ⟨y, ey, rfl⟩ := Option.map_eq_some_iff.mp ex
    have iln : i < n := by
      have := (List.getElem?_eq_some_iff.mp ey).1
      rw [lo] at this
      exact this
    have pa := S.pr_at am iln
    rw [pa.1] at ey
    have ey2 : y = ((pr P a i : Nat) : Int) := (Option.some.inj ey).symm
    subst ey2
    have sn := pa.2
    have nx : n - i = (n - (i + 1)) + 1 := by omega
    rw [nx] at sk
    unfold seekF at sk
    have g0 : sl.getD (pr P a i) 0 = sl.getD (pr P a i) (-1) := by
      rw [List.getD_eq_getElem?_getD, List.getD_eq_getElem?_getD, List.getElem?_eq_getElem (by rw [L.len]; exact sn)]
      rfl
    rw [g0, if_neg (fun z => no (by
      rw [← z, List.getD_eq_getElem?_getD, List.getElem?_eq_getElem (by rw [L.len]; exact sn)]
      exact List.getElem_mem _))] at sk
    try simp only [e_var, e_C, e_op, e_neg, e_isN, e_notN, e_and, e_or, e_not, e_test, e_tAnd, e_tOr, e_tNot, e_tYes, e_if, e_aNil, e_aCons, e_tup, e_lst, e_lstN, e_len0, e_len1, e_len2, e_len3, e_len4, e_len5, e_cb, e_on1, e_on2, e_onI, e_onB, e_onO, e_onO0, e_onOO, e_I0, e_I, e_add, e_addT, e_addS, e_addL, e_addLR, e_addRL, e_addRR, e_mul, e_mulL, e_mulT, e_rev, e_revT, e_ix, e_eqI, e_eqS, e_eqB, e_neI, e_neS, e_neB, e_ltI, e_chain, e_len, e_abs, e_2I, e_tuple1, e_tuple2, e_tuple3, e_listT, e_listN, e_allR, e_seqT, e_seqK, e_seqL, e_isi, e_isB, e_notB, e_truth, e_next, e_drop, e_ret, e_retN, e_ifS, e_set, e_asg, e_par, e_nm, e_gsN, e_gsC, e_gTpK, e_gTpL, e_sum, e_maxL, e_minL, e_maxDef, e_int, e_intB, e_aug, e_on3, e_par3, e_newK, e_getK, e_keyI, e_keyS, e_inK, e_ninK, e_putK, e_lenK, e_lstS, e_seqX, e_gTpT, e_oN, e_oS, e_sl, e_slT, e_slL, e_finT, e_finN, e_index, e_idxT, e_idxL, e_mIx, e_ixST, e_ixSL, e_mtL, e_w, e_w1, e_w2, e_wE, e_wZ, e_itK, e_itT, e_itL, e_itT2, e_itL2, e_lc, e_for, e_wipe0, e_wipe, e_okI, e_okR, e_gSb, List.getElem?_cons_zero, List.getElem?_cons_succ, List.set_cons_zero, List.set_cons_succ, e_getD, e_get1, e_lockK, e_dlockK, e_wItemsK, e_wKeysK, e_getR, e_inR, e_ninR, e_dictP, e_sortTs, e_maxTs, e_pop, e_lenSetL, e_gSbK]
    refine ⟨rfl, ?_⟩
    try simp only [e_var, e_C, e_op, e_neg, e_isN, e_notN, e_and, e_or, e_not, e_test, e_tAnd, e_tOr, e_tNot, e_tYes, e_if, e_aNil, e_aCons, e_tup, e_lst, e_lstN, e_len0, e_len1, e_len2, e_len3, e_len4, e_len5, e_cb, e_on1, e_on2, e_onI, e_onB, e_onO, e_onO0, e_onOO, e_I0, e_I, e_add, e_addT, e_addS, e_addL, e_addLR, e_addRL, e_addRR, e_mul, e_mulL, e_mulT, e_rev, e_revT, e_ix, e_eqI, e_eqS, e_eqB, e_neI, e_neS, e_neB, e_ltI, e_chain, e_len, e_abs, e_2I, e_tuple1, e_tuple2, e_tuple3, e_listT, e_listN, e_allR, e_seqT, e_seqK, e_seqL, e_isi, e_isB, e_notB, e_truth, e_next, e_drop, e_ret, e_retN, e_ifS, e_set, e_asg, e_par, e_nm, e_gsN, e_gsC, e_gTpK, e_gTpL, e_sum, e_maxL, e_minL, e_maxDef, e_int, e_intB, e_aug, e_on3, e_par3, e_newK, e_getK, e_keyI, e_keyS, e_inK, e_ninK, e_putK, e_lenK, e_lstS, e_seqX, e_gTpT, e_oN, e_oS, e_sl, e_slT, e_slL, e_finT, e_finN, e_index, e_idxT, e_idxL, e_mIx, e_ixST, e_ixSL, e_mtL, e_w, e_w1, e_w2, e_wE, e_wZ, e_itK, e_itT, e_itL, e_itT2, e_itL2, e_lc, e_for, e_wipe0, e_wipe, e_okI, e_okR, e_gSb, List.getElem?_cons_zero, List.getElem?_cons_succ, List.set_cons_zero, List.set_cons_succ, e_getD, e_get1, e_lockK, e_dlockK, e_wItemsK, e_wKeysK, e_getR, e_inR, e_ninR, e_dictP, e_sortTs, e_maxTs, e_pop, e_lenSetL, e_gSbK]
    rw [onDk_ref own, kvE_val]
    by_cases c : pr P a i ∈ ks
    · rw [if_pos c]
      have tk : At sl (pr P a i) (e (pr P a i)) := (hl.at_ _ _).mpr ⟨c, rfl⟩
      have vg : sl.getD (pr P a i) (-1) = ((e (pr P a i) : Nat) : Int) := by unfold At at tk; rw [List.getD_eq_getElem?_getD, tk]; rfl
      rw [vg] at sk
      rw [if_neg (by simp)]
      try simp only [e_var, e_C, e_op, e_neg, e_isN, e_notN, e_and, e_or, e_not, e_test, e_tAnd, e_tOr, e_tNot, e_tYes, e_if, e_aNil, e_aCons, e_tup, e_lst, e_lstN, e_len0, e_len1, e_len2, e_len3, e_len4, e_len5, e_cb, e_on1, e_on2, e_onI, e_onB, e_onO, e_onO0, e_onOO, e_I0, e_I, e_add, e_addT, e_addS, e_addL, e_addLR, e_addRL, e_addRR, e_mul, e_mulL, e_mulT, e_rev, e_revT, e_ix, e_eqI, e_eqS, e_eqB, e_neI, e_neS, e_neB, e_ltI, e_chain, e_len, e_abs, e_2I, e_tuple1, e_tuple2, e_tuple3, e_listT, e_listN, e_allR, e_seqT, e_seqK, e_seqL, e_isi, e_isB, e_notB, e_truth, e_next, e_drop, e_ret, e_retN, e_ifS, e_set, e_asg, e_par, e_nm, e_gsN, e_gsC, e_gTpK, e_gTpL, e_sum, e_maxL, e_minL, e_maxDef, e_int, e_intB, e_aug, e_on3, e_par3, e_newK, e_getK, e_keyI, e_keyS, e_inK, e_ninK, e_putK, e_lenK, e_lstS, e_seqX, e_gTpT, e_oN, e_oS, e_sl, e_slT, e_slL, e_finT, e_finN, e_index, e_idxT, e_idxL, e_mIx, e_ixST, e_ixSL, e_mtL, e_w, e_w1, e_w2, e_wE, e_wZ, e_itK, e_itT, e_itL, e_itT2, e_itL2, e_lc, e_for, e_wipe0, e_wipe, e_okI, e_okR, e_gSb, List.getElem?_cons_zero, List.getElem?_cons_succ, List.set_cons_zero, List.set_cons_succ, e_getD, e_get1, e_lockK, e_dlockK, e_wItemsK, e_wKeysK, e_getR, e_inR, e_ninR, e_dictP, e_sortTs, e_maxTs, e_pop, e_lenSetL, e_gSbK]
      rw [onDk_ref own, kvE_val, if_pos c, e_onO]
      try simp only [e_var, e_C, e_op, e_neg, e_isN, e_notN, e_and, e_or, e_not, e_test, e_tAnd, e_tOr, e_tNot, e_tYes, e_if, e_aNil, e_aCons, e_tup, e_lst, e_lstN, e_len0, e_len1, e_len2, e_len3, e_len4, e_len5, e_cb, e_on1, e_on2, e_onI, e_onB, e_onO, e_onO0, e_onOO, e_I0, e_I, e_add, e_addT, e_addS, e_addL, e_addLR, e_addRL, e_addRR, e_mul, e_mulL, e_mulT, e_rev, e_revT, e_ix, e_eqI, e_eqS, e_eqB, e_neI, e_neS, e_neB, e_ltI, e_chain, e_len, e_abs, e_2I, e_tuple1, e_tuple2, e_tuple3, e_listT, e_listN, e_allR, e_seqT, e_seqK, e_seqL, e_isi, e_isB, e_notB, e_truth, e_next, e_drop, e_ret, e_retN, e_ifS, e_set, e_asg, e_par, e_nm, e_gsN, e_gsC, e_gTpK, e_gTpL, e_sum, e_maxL, e_minL, e_maxDef, e_int, e_intB, e_aug, e_on3, e_par3, e_newK, e_getK, e_keyI, e_keyS, e_inK, e_ninK, e_putK, e_lenK, e_lstS, e_seqX, e_gTpT, e_oN, e_oS, e_sl, e_slT, e_slL, e_finT, e_finN, e_index, e_idxT, e_idxL, e_mIx, e_ixST, e_ixSL, e_mtL, e_w, e_w1, e_w2, e_wE, e_wZ, e_itK, e_itT, e_itL, e_itT2, e_itL2, e_lc, e_for, e_wipe0, e_wipe, e_okI, e_okR, e_gSb, List.getElem?_cons_zero, List.getElem?_cons_succ, List.set_cons_zero, List.set_cons_succ, e_getD, e_get1, e_lockK, e_dlockK, e_wItemsK, e_wKeysK, e_getR, e_inR, e_ninR, e_dictP, e_sortTs, e_maxTs, e_pop, e_lenSetL, e_gSbK, S.r_at sn, S.t_at sn am]
      refine row_in ?_
      by_cases b : ((e (pr P a i) : Nat) : Int) ∈ (R.getD (pr P a i) []).getD a []
      · rw [if_pos (.inr b)] at sk
        rw [decide_eq_true b, e_onB, if_pos rfl]
        try simp only [e_var, e_C, e_op, e_neg, e_isN, e_notN, e_and, e_or, e_not, e_test, e_tAnd, e_tOr, e_tNot, e_tYes, e_if, e_aNil, e_aCons, e_tup, e_lst, e_lstN, e_len0, e_len1, e_len2, e_len3, e_len4, e_len5, e_cb, e_on1, e_on2, e_onI, e_onB, e_onO, e_onO0, e_onOO, e_I0, e_I, e_add, e_addT, e_addS, e_addL, e_addLR, e_addRL, e_addRR, e_mul, e_mulL, e_mulT, e_rev, e_revT, e_ix, e_eqI, e_eqS, e_eqB, e_neI, e_neS, e_neB, e_ltI, e_chain, e_len, e_abs, e_2I, e_tuple1, e_tuple2, e_tuple3, e_listT, e_listN, e_allR, e_seqT, e_seqK, e_seqL, e_isi, e_isB, e_notB, e_truth, e_next, e_drop, e_ret, e_retN, e_ifS, e_set, e_asg, e_par, e_nm, e_gsN, e_gsC, e_gTpK, e_gTpL, e_sum, e_maxL, e_minL, e_maxDef, e_int, e_intB, e_aug, e_on3, e_par3, e_newK, e_getK, e_keyI, e_keyS, e_inK, e_ninK, e_putK, e_lenK, e_lstS, e_seqX, e_gTpT, e_oN, e_oS, e_sl, e_slT, e_slL, e_finT, e_finN, e_index, e_idxT, e_idxL, e_mIx, e_ixST, e_ixSL, e_mtL, e_w, e_w1, e_w2, e_wE, e_wZ, e_itK, e_itT, e_itL, e_itT2, e_itL2, e_lc, e_for, e_wipe0, e_wipe, e_okI, e_okR, e_gSb, List.getElem?_cons_zero, List.getElem?_cons_succ, List.set_cons_zero, List.set_cons_succ, e_getD, e_get1, e_lockK, e_dlockK, e_wItemsK, e_wKeysK, e_getR, e_inR, e_ninR, e_dictP, e_sortTs, e_maxTs, e_pop, e_lenSetL, e_gSbK]
        rw [sk] at q
        exact .inl q
      · rw [if_neg (by rintro (z | z); omega; exact b z)] at sk
        rw [decide_eq_false b, e_onB, if_neg (by decide)]
        exact hN _ _ (.inl ⟨i + 1, _, _, el2, rfl, rfl, by omega, sk⟩)
    · rw [if_neg c]
      have vg : sl.getD (pr P a i) (-1) = -1 := (getD_free L sn).mpr fun k z => c ((hl.at_ _ k).mp z).1
      rw [vg, if_pos (.inl rfl)] at sk
      rw [if_pos (by simp)]
      try simp only [e_var, e_C, e_op, e_neg, e_isN, e_notN, e_and, e_or, e_not, e_test, e_tAnd, e_tOr, e_tNot, e_tYes, e_if, e_aNil, e_aCons, e_tup, e_lst, e_lstN, e_len0, e_len1, e_len2, e_len3, e_len4, e_len5, e_cb, e_on1, e_on2, e_onI, e_onB, e_onO, e_onO0, e_onOO, e_I0, e_I, e_add, e_addT, e_addS, e_addL, e_addLR, e_addRL, e_addRR, e_mul, e_mulL, e_mulT, e_rev, e_revT, e_ix, e_eqI, e_eqS, e_eqB, e_neI, e_neS, e_neB, e_ltI, e_chain, e_len, e_abs, e_2I, e_tuple1, e_tuple2, e_tuple3, e_listT, e_listN, e_allR, e_seqT, e_seqK, e_seqL, e_isi, e_isB, e_notB, e_truth, e_next, e_drop, e_ret, e_retN, e_ifS, e_set, e_asg, e_par, e_nm, e_gsN, e_gsC, e_gTpK, e_gTpL, e_sum, e_maxL, e_minL, e_maxDef, e_int, e_intB, e_aug, e_on3, e_par3, e_newK, e_getK, e_keyI, e_keyS, e_inK, e_ninK, e_putK, e_lenK, e_lstS, e_seqX, e_gTpT, e_oN, e_oS, e_sl, e_slT, e_slL, e_finT, e_finN, e_index, e_idxT, e_idxL, e_mIx, e_ixST, e_ixSL, e_mtL, e_w, e_w1, e_w2, e_wE, e_wZ, e_itK, e_itT, e_itL, e_itT2, e_itL2, e_lc, e_for, e_wipe0, e_wipe, e_okI, e_okR, e_gSb, List.getElem?_cons_zero, List.getElem?_cons_succ, List.set_cons_zero, List.set_cons_succ, e_getD, e_get1, e_lockK, e_dlockK, e_wItemsK, e_wKeysK, e_getR, e_inR, e_ninR, e_dictP, e_sortTs, e_maxTs, e_pop, e_lenSetL, e_gSbK]
      rw [sk] at q
      exact .inl q
  · rintro r st' ⟨i, x4, x5, el, rfl, rfl, li, sk⟩
    have iN : i = n := by
      have := congrArg List.length el
      rw [List.length_drop, enumD_length, List.length_map, lo] at this
      simp at this
      omega
    subst iN
    rw [Nat.sub_self] at sk
    try simp only [e_var, e_C, e_op, e_neg, e_isN, e_notN, e_and, e_or, e_not, e_test, e_tAnd, e_tOr, e_tNot, e_tYes, e_if, e_aNil, e_aCons, e_tup, e_lst, e_lstN, e_len0, e_len1, e_len2, e_len3, e_len4, e_len5, e_cb, e_on1, e_on2, e_onI, e_onB, e_onO, e_onO0, e_onOO, e_I0, e_I, e_add, e_addT, e_addS, e_addL, e_addLR, e_addRL, e_addRR, e_mul, e_mulL, e_mulT, e_rev, e_revT, e_ix, e_eqI, e_eqS, e_eqB, e_neI, e_neS, e_neB, e_ltI, e_chain, e_len, e_abs, e_2I, e_tuple1, e_tuple2, e_tuple3, e_listT, e_listN, e_allR, e_seqT, e_seqK, e_seqL, e_isi, e_isB, e_notB, e_truth, e_next, e_drop, e_ret, e_retN, e_ifS, e_set, e_asg, e_par, e_nm, e_gsN, e_gsC, e_gTpK, e_gTpL, e_sum, e_maxL, e_minL, e_maxDef, e_int, e_intB, e_aug, e_on3, e_par3, e_newK, e_getK, e_keyI, e_keyS, e_inK, e_ninK, e_putK, e_lenK, e_lstS, e_seqX, e_gTpT, e_oN, e_oS, e_sl, e_slT, e_slL, e_finT, e_finN, e_index, e_idxT, e_idxL, e_mIx, e_ixST, e_ixSL, e_mtL, e_w, e_w1, e_w2, e_wE, e_wZ, e_itK, e_itT, e_itL, e_itT2, e_itL2, e_lc, e_for, e_wipe0, e_wipe, e_okI, e_okR, e_gSb, List.getElem?_cons_zero, List.getElem?_cons_succ, List.set_cons_zero, List.set_cons_succ, e_getD, e_get1, e_lockK, e_dlockK, e_wItemsK, e_wKeysK, e_getR, e_inR, e_ninR, e_dictP, e_sortTs, e_maxTs, e_pop, e_lenSetL, e_gSbK, S.p_at am, List.length_map, lo]
    have : (seekF P R sl i a 0 i) = (-1, i) := rfl
    rw [this] at sk
    rw [sk] at q
    exact .inl q
end DL
--ELX
namespace DL
open PySem PySem.Spec PyProof.Rows L2 LamX PySem.W SL
theorem head_of {m n : Nat} {P : List (List Int)} {R : List (List (List Int))} (S : Setg m n P R) {sl : List Int} {a : Nat} : ∀ (f i : Nat) (L : List Int) (pp : List (Nat × Nat)), Go m n P sl a i → insG P R f sl a i = some (L, pp) → ∃ j, j < n ∧ seekF P R sl n a (n - i) i = (-1, j + 1) ∧ ∃ rest, pp = (a, pr P a j) :: rest
  | 0, i, L, pp, G, h => by cases h
  | f + 1, i, L, pp, G, h => by
    have sn := (S.pr_at G.ha G.hi).2
    have Ly := G.g.lay
    have hi := G.hi
    have nx : n - i = (n - (i + 1)) + 1 := by omega
    have g0 : sl.getD (pr P a i) 0 = sl.getD (pr P a i) (-1) := by
      rw [List.getD_eq_getElem?_getD, List.getD_eq_getElem?_getD, List.getElem?_eq_getElem (by rw [Ly.len]; exact sn)]
      rfl
    rcases Ly.either sn with fr | ⟨k, tk⟩
    · rw [insG_free fr] at h
      refine ⟨i, G.hi, ?_, [], ?_⟩
      · rw [nx]
        have vg : sl.getD (pr P a i) (-1) = -1 := by rw [List.getD_eq_getElem?_getD, fr]; rfl
        show (if sl.getD (pr P a i) 0 = (a : Int) then ((((pr P a i : Nat) : Int), i + 1) : Int × Nat) else if sl.getD (pr P a i) 0 = -1 ∨ sl.getD (pr P a i) 0 ∈ (R.getD (pr P a i) []).getD a [] then (-1, i + 1) else seekF P R sl n a (n - (i + 1)) (i + 1)) = _
        rw [g0, vg, if_neg (by omega), if_pos (.inl rfl)]
      · exact (congrArg Prod.snd (Option.some.inj h)).symm
    · rw [insG_taken tk] at h
      have vg : sl.getD (pr P a i) (-1) = (k : Int) := by unfold At at tk; rw [List.getD_eq_getElem?_getD, tk]; rfl
      have ne : k ≠ a := fun z => G.fr _ (by rw [← z]; exact tk)
      have sk : seekF P R sl n a (n - i) i = if (k : Int) ∈ (R.getD (pr P a i) []).getD a [] then (-1, i + 1) else seekF P R sl n a (n - (i + 1)) (i + 1) := by
        rw [nx]
        show (if sl.getD (pr P a i) 0 = (a : Int) then ((((pr P a i : Nat) : Int), i + 1) : Int × Nat) else if sl.getD (pr P a i) 0 = -1 ∨ sl.getD (pr P a i) 0 ∈ (R.getD (pr P a i) []).getD a [] then (-1, i + 1) else seekF P R sl n a (n - (i + 1)) (i + 1)) = _
        rw [g0, vg, if_neg (by omega)]
        by_cases c : (k : Int) ∈ (R.getD (pr P a i) []).getD a []
        · rw [if_pos (.inr c), if_pos c]
        · rw [if_neg (fun z => z.elim (by omega) c), if_neg c]
      by_cases b : bt R (pr P a i) a k = true
      · rw [if_pos b] at h
        obtain ⟨y, _, hy⟩ := Option.map_eq_some_iff.mp h
        refine ⟨i, G.hi, ?_, y.2, (congrArg Prod.snd hy).symm⟩
        unfold bt at b
        rw [sk, if_pos (of_decide_eq_true b)]
      · rw [if_neg b] at h
        obtain ⟨j, jn, e, rest, ep⟩ := head_of S f (i + 1) L pp (G.on S tk) h
        refine ⟨j, jn, ?_, rest, ep⟩
        unfold bt at b
        rw [sk, if_neg (fun z => b (decide_eq_true z)), e]
def g_absentX : DRs := fun ds st Q => ∃ (d m n : Nat) (P : List (List Int)) (R : List (List (List Int))) (sl : List Int) (e : Nat → Nat) (ks : List Nat) (a : Nat), ds = [rowsD P, tabsD R, rowD sl, .ref d, .int (a : Nat)] ∧ st[d]? = some (.dK (kvE e ks)) ∧ HL n sl e ks ∧ Setg m n P R ∧ (∀ t ∈ R, noRing t = true) ∧ Good m n P sl ∧ a < m ∧ (∀ t, ¬ At sl t a) ∧ m ≤ 60 ∧ 1 ≤ n ∧ n ≤ 60 ∧ Q (.bl true) st
theorem ar_absentX (ds : List D) (st : DSt) (Q : DK) (h : g_absentX ds st Q) : ds.length = 5 := by
  obtain ⟨_, _, _, _, _, _, _, _, _, rfl, _⟩ := h
  rfl
set_option maxHeartbeats 2000000 in
theorem sem_absentX (ds : List D) (st : DSt) (Q : DK) (h : g_absentX ds st Q) : F__law_absent_right g_insert g_look g_readsX { nx := fun _ st' => Rt st Q .non st', rt := Rt st Q } (startD 7 ds) st := by
  obtain ⟨d, m, n, P, R, sl, e, ks, a, rfl, own, hl, S, all, g, am, fr, m60, n1, n60, q⟩ := h
  have st7 : startD 7 [rowsD P, tabsD R, rowD sl, D.ref d, D.int (a : Nat)] = [some (.tup (P.map rowD)), some (.tup (R.map rowsD)), some (.tup (sl.map D.int)), some (.ref d), some (.int (a : Nat)), none, none] := rfl
  have L := g.lay
  have no : (a : Int) ∉ sl := fun z => by obtain ⟨t, ht⟩ := mem_lay.mp z; exact fr t ht
  have sk := seek_no (R := R) no L.len S am n 0 (by omega)
  have e1 : rowsD P = .tup (P.map rowD) := rfl
  simp only [F__law_absent_right, st7]
  try dsimp only
  rw [e_seq]
  try simp only [e_var, e_C, e_op, e_neg, e_isN, e_notN, e_and, e_or, e_not, e_test, e_tAnd, e_tOr, e_tNot, e_tYes, e_if, e_aNil, e_aCons, e_tup, e_lst, e_lstN, e_len0, e_len1, e_len2, e_len3, e_len4, e_len5, e_cb, e_on1, e_on2, e_onI, e_onB, e_onO, e_onO0, e_onOO, e_I0, e_I, e_add, e_addT, e_addS, e_addL, e_addLR, e_addRL, e_addRR, e_mul, e_mulL, e_mulT, e_rev, e_revT, e_ix, e_eqI, e_eqS, e_eqB, e_neI, e_neS, e_neB, e_ltI, e_chain, e_len, e_abs, e_2I, e_tuple1, e_tuple2, e_tuple3, e_listT, e_listN, e_allR, e_seqT, e_seqK, e_seqL, e_isi, e_isB, e_notB, e_truth, e_next, e_drop, e_ret, e_retN, e_ifS, e_set, e_asg, e_par, e_nm, e_gsN, e_gsC, e_gTpK, e_gTpL, e_sum, e_maxL, e_minL, e_maxDef, e_int, e_intB, e_aug, e_on3, e_par3, e_newK, e_getK, e_keyI, e_keyS, e_inK, e_ninK, e_putK, e_lenK, e_lstS, e_seqX, e_gTpT, e_oN, e_oS, e_sl, e_slT, e_slL, e_finT, e_finN, e_index, e_idxT, e_idxL, e_mIx, e_ixST, e_ixSL, e_mtL, e_w, e_w1, e_w2, e_wE, e_wZ, e_itK, e_itT, e_itL, e_itT2, e_itL2, e_lc, e_for, e_wipe0, e_wipe, e_okI, e_okR, e_gSb, List.getElem?_cons_zero, List.getElem?_cons_succ, List.set_cons_zero, List.set_cons_succ, e_getD, e_get1, e_lockK, e_dlockK, e_wItemsK, e_wKeysK, e_getR, e_inR, e_ninR, e_dictP, e_sortTs, e_maxTs, e_pop, e_lenSetL, e_gSbK]
  refine ⟨d, m, n, P, R, sl, e, ks, a, rfl, own, hl, S, L, am, no, n60, ?_⟩
  try dsimp only
  rw [e_seq]
  try simp only [e_var, e_C, e_op, e_neg, e_isN, e_notN, e_and, e_or, e_not, e_test, e_tAnd, e_tOr, e_tNot, e_tYes, e_if, e_aNil, e_aCons, e_tup, e_lst, e_lstN, e_len0, e_len1, e_len2, e_len3, e_len4, e_len5, e_cb, e_on1, e_on2, e_onI, e_onB, e_onO, e_onO0, e_onOO, e_I0, e_I, e_add, e_addT, e_addS, e_addL, e_addLR, e_addRL, e_addRR, e_mul, e_mulL, e_mulT, e_rev, e_revT, e_ix, e_eqI, e_eqS, e_eqB, e_neI, e_neS, e_neB, e_ltI, e_chain, e_len, e_abs, e_2I, e_tuple1, e_tuple2, e_tuple3, e_listT, e_listN, e_allR, e_seqT, e_seqK, e_seqL, e_isi, e_isB, e_notB, e_truth, e_next, e_drop, e_ret, e_retN, e_ifS, e_set, e_asg, e_par, e_nm, e_gsN, e_gsC, e_gTpK, e_gTpL, e_sum, e_maxL, e_minL, e_maxDef, e_int, e_intB, e_aug, e_on3, e_par3, e_newK, e_getK, e_keyI, e_keyS, e_inK, e_ninK, e_putK, e_lenK, e_lstS, e_seqX, e_gTpT, e_oN, e_oS, e_sl, e_slT, e_slL, e_finT, e_finN, e_index, e_idxT, e_idxL, e_mIx, e_ixST, e_ixSL, e_mtL, e_w, e_w1, e_w2, e_wE, e_wZ, e_itK, e_itT, e_itL, e_itT2, e_itL2, e_lc, e_for, e_wipe0, e_wipe, e_okI, e_okR, e_gSb, List.getElem?_cons_zero, List.getElem?_cons_succ, List.set_cons_zero, List.set_cons_succ, e_getD, e_get1, e_lockK, e_dlockK, e_wItemsK, e_wKeysK, e_getR, e_inR, e_ninR, e_dictP, e_sortTs, e_maxTs, e_pop, e_lenSetL, e_gSbK]
  refine ⟨m, n, P, R, sl, a, rfl, S, all, m60, n60, L, am, ?_⟩
  have ef : foundD (seekF P R sl n a n 0) = .tup [.int (-1), .int ((seekF P R sl n a n 0).2 : Nat)] := by unfold foundD; rw [sk.1]
  have sm2 : Sm 1 47 (.tup [.int (-1), .int ((seekF P R sl n a n 0).2 : Nat)]) := sm_tup (k := 0) (c := 20) (m := 2) (fun d hd => by
    simp only [List.mem_cons, List.not_mem_nil, or_false] at hd
    rcases hd with rfl | rfl
    · exact sm_int (by omega) (by omega)
    · exact sm_int (by omega) (by omega)) (by simp)
  rw [ef]
  refine repr_txt sm2 nrT (by decide) (by decide) ?_
  refine repr_txt sm2 nrT (by decide) (by decide) ?_
  try simp only [e_var, e_C, e_op, e_neg, e_isN, e_notN, e_and, e_or, e_not, e_test, e_tAnd, e_tOr, e_tNot, e_tYes, e_if, e_aNil, e_aCons, e_tup, e_lst, e_lstN, e_len0, e_len1, e_len2, e_len3, e_len4, e_len5, e_cb, e_on1, e_on2, e_onI, e_onB, e_onO, e_onO0, e_onOO, e_I0, e_I, e_add, e_addT, e_addS, e_addL, e_addLR, e_addRL, e_addRR, e_mul, e_mulL, e_mulT, e_rev, e_revT, e_ix, e_eqI, e_eqS, e_eqB, e_neI, e_neS, e_neB, e_ltI, e_chain, e_len, e_abs, e_2I, e_tuple1, e_tuple2, e_tuple3, e_listT, e_listN, e_allR, e_seqT, e_seqK, e_seqL, e_isi, e_isB, e_notB, e_truth, e_next, e_drop, e_ret, e_retN, e_ifS, e_set, e_asg, e_par, e_nm, e_gsN, e_gsC, e_gTpK, e_gTpL, e_sum, e_maxL, e_minL, e_maxDef, e_int, e_intB, e_aug, e_on3, e_par3, e_newK, e_getK, e_keyI, e_keyS, e_inK, e_ninK, e_putK, e_lenK, e_lstS, e_seqX, e_gTpT, e_oN, e_oS, e_sl, e_slT, e_slL, e_finT, e_finN, e_index, e_idxT, e_idxL, e_mIx, e_ixST, e_ixSL, e_mtL, e_w, e_w1, e_w2, e_wE, e_wZ, e_itK, e_itT, e_itL, e_itT2, e_itL2, e_lc, e_for, e_wipe0, e_wipe, e_okI, e_okR, e_gSb, List.getElem?_cons_zero, List.getElem?_cons_succ, List.set_cons_zero, List.set_cons_succ, e_getD, e_get1, e_lockK, e_dlockK, e_wItemsK, e_wKeysK, e_getR, e_inR, e_ninR, e_dictP, e_sortTs, e_maxTs, e_pop, e_lenSetL, e_gSbK, decide_true, Bool.not_true]
  rw [if_neg (by simp)]
  try dsimp only
  rw [e_seq]
  try simp only [e_var, e_C, e_op, e_neg, e_isN, e_notN, e_and, e_or, e_not, e_test, e_tAnd, e_tOr, e_tNot, e_tYes, e_if, e_aNil, e_aCons, e_tup, e_lst, e_lstN, e_len0, e_len1, e_len2, e_len3, e_len4, e_len5, e_cb, e_on1, e_on2, e_onI, e_onB, e_onO, e_onO0, e_onOO, e_I0, e_I, e_add, e_addT, e_addS, e_addL, e_addLR, e_addRL, e_addRR, e_mul, e_mulL, e_mulT, e_rev, e_revT, e_ix, e_eqI, e_eqS, e_eqB, e_neI, e_neS, e_neB, e_ltI, e_chain, e_len, e_abs, e_2I, e_tuple1, e_tuple2, e_tuple3, e_listT, e_listN, e_allR, e_seqT, e_seqK, e_seqL, e_isi, e_isB, e_notB, e_truth, e_next, e_drop, e_ret, e_retN, e_ifS, e_set, e_asg, e_par, e_nm, e_gsN, e_gsC, e_gTpK, e_gTpL, e_sum, e_maxL, e_minL, e_maxDef, e_int, e_intB, e_aug, e_on3, e_par3, e_newK, e_getK, e_keyI, e_keyS, e_inK, e_ninK, e_putK, e_lenK, e_lstS, e_seqX, e_gTpT, e_oN, e_oS, e_sl, e_slT, e_slL, e_finT, e_finN, e_index, e_idxT, e_idxL, e_mIx, e_ixST, e_ixSL, e_mtL, e_w, e_w1, e_w2, e_wE, e_wZ, e_itK, e_itT, e_itL, e_itT2, e_itL2, e_lc, e_for, e_wipe0, e_wipe, e_okI, e_okR, e_gSb, List.getElem?_cons_zero, List.getElem?_cons_succ, List.set_cons_zero, List.set_cons_succ, e_getD, e_get1, e_lockK, e_dlockK, e_wItemsK, e_wKeysK, e_getR, e_inR, e_ninR, e_dictP, e_sortTs, e_maxTs, e_pop, e_lenSetL, e_gSbK]
  refine nin_row ?_
  by_cases full : (-1 : Int) ∈ sl
  · rw [decide_eq_true full, e_onB, if_neg (by decide)]
    obtain ⟨t, ht⟩ := List.mem_iff_getElem?.mp full
    have tn : t < n := by have := (List.getElem?_eq_some_iff.mp ht).1; rw [L.len] at this; exact this
    have G := Go.start g am fr ⟨t, tn, ht⟩
    have ie := ins_eq S G
    generalize hI : ins P R sl a = I at ie
    obtain ⟨L2, pp⟩ := I
    obtain ⟨j, jn, es, rest, ep⟩ := head_of S _ _ _ _ G ie
    rw [Nat.sub_zero] at es
    try dsimp only
    rw [e_seq]
    try simp only [e_var, e_C, e_op, e_neg, e_isN, e_notN, e_and, e_or, e_not, e_test, e_tAnd, e_tOr, e_tNot, e_tYes, e_if, e_aNil, e_aCons, e_tup, e_lst, e_lstN, e_len0, e_len1, e_len2, e_len3, e_len4, e_len5, e_cb, e_on1, e_on2, e_onI, e_onB, e_onO, e_onO0, e_onOO, e_I0, e_I, e_add, e_addT, e_addS, e_addL, e_addLR, e_addRL, e_addRR, e_mul, e_mulL, e_mulT, e_rev, e_revT, e_ix, e_eqI, e_eqS, e_eqB, e_neI, e_neS, e_neB, e_ltI, e_chain, e_len, e_abs, e_2I, e_tuple1, e_tuple2, e_tuple3, e_listT, e_listN, e_allR, e_seqT, e_seqK, e_seqL, e_isi, e_isB, e_notB, e_truth, e_next, e_drop, e_ret, e_retN, e_ifS, e_set, e_asg, e_par, e_nm, e_gsN, e_gsC, e_gTpK, e_gTpL, e_sum, e_maxL, e_minL, e_maxDef, e_int, e_intB, e_aug, e_on3, e_par3, e_newK, e_getK, e_keyI, e_keyS, e_inK, e_ninK, e_putK, e_lenK, e_lstS, e_seqX, e_gTpT, e_oN, e_oS, e_sl, e_slT, e_slL, e_finT, e_finN, e_index, e_idxT, e_idxL, e_mIx, e_ixST, e_ixSL, e_mtL, e_w, e_w1, e_w2, e_wE, e_wZ, e_itK, e_itT, e_itL, e_itT2, e_itL2, e_lc, e_for, e_wipe0, e_wipe, e_okI, e_okR, e_gSb, List.getElem?_cons_zero, List.getElem?_cons_succ, List.set_cons_zero, List.set_cons_succ, e_getD, e_get1, e_lockK, e_dlockK, e_wItemsK, e_wKeysK, e_getR, e_inR, e_ninR, e_dictP, e_sortTs, e_maxTs, e_pop, e_lenSetL, e_gSbK]
    refine ⟨m, n, P, R, sl, a, rfl, S, m60, n60, G, ?_⟩
    rw [hI]
    have epd : pathD pp = .tup (pp.map pairN) := rfl
    have a1 : atI [rowD L2, D.tup (pp.map pairN)] 1 = some (.tup (pp.map pairN)) := atI_nat (j := 1) rfl
    have a0 : atI (pp.map pairN) 0 = some (.tup [.int (a : Nat), .int (pr P a j : Nat)]) := by rw [ep]; exact atI_nat (j := 0) rfl
    have aj : atI ((P.getD a []).map D.int) ((((seekF P R sl n a n 0).2 : Nat) : Int) - 1) = some (.int (pr P a j : Nat)) := by
      rw [es]
      show atI _ (((j + 1 : Nat) : Int) - 1) = _
      rw [show (((j + 1 : Nat) : Int) - 1) = (j : Int) by omega]
      exact at_map (S.pr_at am jn).1
    have pn := (S.pr_at am jn).2
    try simp only [e_var, e_C, e_op, e_neg, e_isN, e_notN, e_and, e_or, e_not, e_test, e_tAnd, e_tOr, e_tNot, e_tYes, e_if, e_aNil, e_aCons, e_tup, e_lst, e_lstN, e_len0, e_len1, e_len2, e_len3, e_len4, e_len5, e_cb, e_on1, e_on2, e_onI, e_onB, e_onO, e_onO0, e_onOO, e_I0, e_I, e_add, e_addT, e_addS, e_addL, e_addLR, e_addRL, e_addRR, e_mul, e_mulL, e_mulT, e_rev, e_revT, e_ix, e_eqI, e_eqS, e_eqB, e_neI, e_neS, e_neB, e_ltI, e_chain, e_len, e_abs, e_2I, e_tuple1, e_tuple2, e_tuple3, e_listT, e_listN, e_allR, e_seqT, e_seqK, e_seqL, e_isi, e_isB, e_notB, e_truth, e_next, e_drop, e_ret, e_retN, e_ifS, e_set, e_asg, e_par, e_nm, e_gsN, e_gsC, e_gTpK, e_gTpL, e_sum, e_maxL, e_minL, e_maxDef, e_int, e_intB, e_aug, e_on3, e_par3, e_newK, e_getK, e_keyI, e_keyS, e_inK, e_ninK, e_putK, e_lenK, e_lstS, e_seqX, e_gTpT, e_oN, e_oS, e_sl, e_slT, e_slL, e_finT, e_finN, e_index, e_idxT, e_idxL, e_mIx, e_ixST, e_ixSL, e_mtL, e_w, e_w1, e_w2, e_wE, e_wZ, e_itK, e_itT, e_itL, e_itT2, e_itL2, e_lc, e_for, e_wipe0, e_wipe, e_okI, e_okR, e_gSb, List.getElem?_cons_zero, List.getElem?_cons_succ, List.set_cons_zero, List.set_cons_succ, e_getD, e_get1, e_lockK, e_dlockK, e_wItemsK, e_wKeysK, e_getR, e_inR, e_ninR, e_dictP, e_sortTs, e_maxTs, e_pop, e_lenSetL, e_gSbK, epd, a1, a0, S.p_at am, aj]
    refine eq_tup (sm_tup (k := 0) (c := 20) (m := 2) (fun d hd => by
      simp only [List.mem_cons, List.not_mem_nil, or_false] at hd
      rcases hd with rfl | rfl
      · exact sm_int (by omega) (by omega)
      · exact sm_int (by omega) (by omega)) (by simp)) (by decide) ?_
    exact .inl q
  · rw [decide_eq_false full, e_onB, if_pos (by decide)]
    try simp only [e_var, e_C, e_op, e_neg, e_isN, e_notN, e_and, e_or, e_not, e_test, e_tAnd, e_tOr, e_tNot, e_tYes, e_if, e_aNil, e_aCons, e_tup, e_lst, e_lstN, e_len0, e_len1, e_len2, e_len3, e_len4, e_len5, e_cb, e_on1, e_on2, e_onI, e_onB, e_onO, e_onO0, e_onOO, e_I0, e_I, e_add, e_addT, e_addS, e_addL, e_addLR, e_addRL, e_addRR, e_mul, e_mulL, e_mulT, e_rev, e_revT, e_ix, e_eqI, e_eqS, e_eqB, e_neI, e_neS, e_neB, e_ltI, e_chain, e_len, e_abs, e_2I, e_tuple1, e_tuple2, e_tuple3, e_listT, e_listN, e_allR, e_seqT, e_seqK, e_seqL, e_isi, e_isB, e_notB, e_truth, e_next, e_drop, e_ret, e_retN, e_ifS, e_set, e_asg, e_par, e_nm, e_gsN, e_gsC, e_gTpK, e_gTpL, e_sum, e_maxL, e_minL, e_maxDef, e_int, e_intB, e_aug, e_on3, e_par3, e_newK, e_getK, e_keyI, e_keyS, e_inK, e_ninK, e_putK, e_lenK, e_lstS, e_seqX, e_gTpT, e_oN, e_oS, e_sl, e_slT, e_slL, e_finT, e_finN, e_index, e_idxT, e_idxL, e_mIx, e_ixST, e_ixSL, e_mtL, e_w, e_w1, e_w2, e_wE, e_wZ, e_itK, e_itT, e_itL, e_itT2, e_itL2, e_lc, e_for, e_wipe0, e_wipe, e_okI, e_okR, e_gSb, List.getElem?_cons_zero, List.getElem?_cons_succ, List.set_cons_zero, List.set_cons_succ, e_getD, e_get1, e_lockK, e_dlockK, e_wItemsK, e_wKeysK, e_getR, e_inR, e_ninR, e_dictP, e_sortTs, e_maxTs, e_pop, e_lenSetL, e_gSbK]
    exact .inl q
end DL
--ELX
namespace DL
open PySem PySem.Spec PyProof.Rows L2 LamX PySem.W SL
def g_tabOfX : DRs := fun ds st Q => g_tabOfL ds st Q ∨ ∃ (p n : Nat) (ns : List Int), ds = [.ref p] ∧ st[p]? = some (.lst (ns.map D.int)) ∧ Ord n ns ∧ n ≤ 60 ∧ Q (rowsD (ordT ns)) st
theorem ar_tabOfX (ds : List D) (st : DSt) (Q : DK) (h : g_tabOfX ds st Q) : ds.length = 1 := by
  rcases h with h | ⟨_, _, _, rfl, _⟩
  · exact ar_tabOfL _ _ _ h
  · rfl
theorem sem_tabOfX (ds : List D) (st : DSt) (Q : DK) (h : g_tabOfX ds st Q) : F__law_ordered_table { nx := fun _ st' => Rt st Q .non st', rt := Rt st Q } (startD 2 ds) st := by
  rcases h with h | ⟨p, n, ns, rfl, own, o, n60, q⟩
  · exact sem_tabOfL _ _ _ h
  have st2 : startD 2 [D.ref p] = [some (.ref p), none] := rfl
  have big : (1000 : Nat) ≤ sizeLine := by decide
  have ln := o.len
  simp only [F__law_ordered_table, st2]
  try simp only [e_var, e_C, e_op, e_neg, e_isN, e_notN, e_and, e_or, e_not, e_test, e_tAnd, e_tOr, e_tNot, e_tYes, e_if, e_aNil, e_aCons, e_tup, e_lst, e_lstN, e_len0, e_len1, e_len2, e_len3, e_len4, e_len5, e_cb, e_on1, e_on2, e_onI, e_onB, e_onO, e_onO0, e_onOO, e_I0, e_I, e_add, e_addT, e_addS, e_addL, e_addLR, e_addRL, e_addRR, e_mul, e_mulL, e_mulT, e_rev, e_revT, e_ix, e_eqI, e_eqS, e_eqB, e_neI, e_neS, e_neB, e_ltI, e_chain, e_len, e_abs, e_2I, e_tuple1, e_tuple2, e_tuple3, e_listT, e_listN, e_allR, e_seqT, e_seqK, e_seqL, e_isi, e_isB, e_notB, e_truth, e_next, e_drop, e_ret, e_retN, e_ifS, e_set, e_asg, e_par, e_nm, e_gsN, e_gsC, e_gTpK, e_gTpL, e_sum, e_maxL, e_minL, e_maxDef, e_int, e_intB, e_aug, e_on3, e_par3, e_newK, e_getK, e_keyI, e_keyS, e_inK, e_ninK, e_putK, e_lenK, e_lstS, e_seqX, e_gTpT, e_oN, e_oS, e_sl, e_slT, e_slL, e_finT, e_finN, e_index, e_idxT, e_idxL, e_mIx, e_ixST, e_ixSL, e_mtL, e_w, e_w1, e_w2, e_wE, e_wZ, e_itK, e_itT, e_itL, e_itT2, e_itL2, e_lc, e_for, e_wipe0, e_wipe, e_okI, e_okR, e_gSb, List.getElem?_cons_zero, List.getElem?_cons_succ, List.set_cons_zero, List.set_cons_succ, e_getD, e_get1, e_lockK, e_dlockK, e_wItemsK, e_wKeysK, e_getR, e_inR, e_ninR, e_dictP, e_sortTs, e_maxTs, e_pop, e_lenSetL, e_gSbK, seq_ref own, List.length_map, rgD_length, Int.toNat_natCast]
  refine ⟨⟨by omega, by omega⟩, by omega, lc_rng (fun k => rowD (sortI (ns.drop (pos ns (k : Int) + 1)))) (fun k lt Q' q' => ?_) ?_⟩
  · have mk : (k : Int) ∈ ns := o.mem.mpr (by omega)
    try simp only [e_var, e_C, e_op, e_neg, e_isN, e_notN, e_and, e_or, e_not, e_test, e_tAnd, e_tOr, e_tNot, e_tYes, e_if, e_aNil, e_aCons, e_tup, e_lst, e_lstN, e_len0, e_len1, e_len2, e_len3, e_len4, e_len5, e_cb, e_on1, e_on2, e_onI, e_onB, e_onO, e_onO0, e_onOO, e_I0, e_I, e_add, e_addT, e_addS, e_addL, e_addLR, e_addRL, e_addRR, e_mul, e_mulL, e_mulT, e_rev, e_revT, e_ix, e_eqI, e_eqS, e_eqB, e_neI, e_neS, e_neB, e_ltI, e_chain, e_len, e_abs, e_2I, e_tuple1, e_tuple2, e_tuple3, e_listT, e_listN, e_allR, e_seqT, e_seqK, e_seqL, e_isi, e_isB, e_notB, e_truth, e_next, e_drop, e_ret, e_retN, e_ifS, e_set, e_asg, e_par, e_nm, e_gsN, e_gsC, e_gTpK, e_gTpL, e_sum, e_maxL, e_minL, e_maxDef, e_int, e_intB, e_aug, e_on3, e_par3, e_newK, e_getK, e_keyI, e_keyS, e_inK, e_ninK, e_putK, e_lenK, e_lstS, e_seqX, e_gTpT, e_oN, e_oS, e_sl, e_slT, e_slL, e_finT, e_finN, e_index, e_idxT, e_idxL, e_mIx, e_ixST, e_ixSL, e_mtL, e_w, e_w1, e_w2, e_wE, e_wZ, e_itK, e_itT, e_itL, e_itT2, e_itL2, e_lc, e_for, e_wipe0, e_wipe, e_okI, e_okR, e_gSb, List.getElem?_cons_zero, List.getElem?_cons_succ, List.set_cons_zero, List.set_cons_succ, e_getD, e_get1, e_lockK, e_dlockK, e_wItemsK, e_wKeysK, e_getR, e_inR, e_ninR, e_dictP, e_sortTs, e_maxTs, e_pop, e_lenSetL, e_gSbK, idx_ref own, ixS_ref own, intsD_ints, (pos_at mk).2, true_and]
    have e : ((pos ns (k : Int) : Nat) : Int) + 1 = ((pos ns (k : Int) + 1 : Nat) : Int) := by omega
    show onO (seqS st (.ref p)) _
    rw [seq_ref own, e_onO, e, cutN, ← List.map_drop]
    try simp only [e_var, e_C, e_op, e_neg, e_isN, e_notN, e_and, e_or, e_not, e_test, e_tAnd, e_tOr, e_tNot, e_tYes, e_if, e_aNil, e_aCons, e_tup, e_lst, e_lstN, e_len0, e_len1, e_len2, e_len3, e_len4, e_len5, e_cb, e_on1, e_on2, e_onI, e_onB, e_onO, e_onO0, e_onOO, e_I0, e_I, e_add, e_addT, e_addS, e_addL, e_addLR, e_addRL, e_addRR, e_mul, e_mulL, e_mulT, e_rev, e_revT, e_ix, e_eqI, e_eqS, e_eqB, e_neI, e_neS, e_neB, e_ltI, e_chain, e_len, e_abs, e_2I, e_tuple1, e_tuple2, e_tuple3, e_listT, e_listN, e_allR, e_seqT, e_seqK, e_seqL, e_isi, e_isB, e_notB, e_truth, e_next, e_drop, e_ret, e_retN, e_ifS, e_set, e_asg, e_par, e_nm, e_gsN, e_gsC, e_gTpK, e_gTpL, e_sum, e_maxL, e_minL, e_maxDef, e_int, e_intB, e_aug, e_on3, e_par3, e_newK, e_getK, e_keyI, e_keyS, e_inK, e_ninK, e_putK, e_lenK, e_lstS, e_seqX, e_gTpT, e_oN, e_oS, e_sl, e_slT, e_slL, e_finT, e_finN, e_index, e_idxT, e_idxL, e_mIx, e_ixST, e_ixSL, e_mtL, e_w, e_w1, e_w2, e_wE, e_wZ, e_itK, e_itT, e_itL, e_itT2, e_itL2, e_lc, e_for, e_wipe0, e_wipe, e_okI, e_okR, e_gSb, List.getElem?_cons_zero, List.getElem?_cons_succ, List.set_cons_zero, List.set_cons_succ, e_getD, e_get1, e_lockK, e_dlockK, e_wItemsK, e_wKeysK, e_getR, e_inR, e_ninR, e_dictP, e_sortTs, e_maxTs, e_pop, e_lenSetL, e_gSbK]
    refine sort_ev rfl (by rw [List.length_drop]; omega) ?_
    try simp only [e_var, e_C, e_op, e_neg, e_isN, e_notN, e_and, e_or, e_not, e_test, e_tAnd, e_tOr, e_tNot, e_tYes, e_if, e_aNil, e_aCons, e_tup, e_lst, e_lstN, e_len0, e_len1, e_len2, e_len3, e_len4, e_len5, e_cb, e_on1, e_on2, e_onI, e_onB, e_onO, e_onO0, e_onOO, e_I0, e_I, e_add, e_addT, e_addS, e_addL, e_addLR, e_addRL, e_addRR, e_mul, e_mulL, e_mulT, e_rev, e_revT, e_ix, e_eqI, e_eqS, e_eqB, e_neI, e_neS, e_neB, e_ltI, e_chain, e_len, e_abs, e_2I, e_tuple1, e_tuple2, e_tuple3, e_listT, e_listN, e_allR, e_seqT, e_seqK, e_seqL, e_isi, e_isB, e_notB, e_truth, e_next, e_drop, e_ret, e_retN, e_ifS, e_set, e_asg, e_par, e_nm, e_gsN, e_gsC, e_gTpK, e_gTpL, e_sum, e_maxL, e_minL, e_maxDef, e_int, e_intB, e_aug, e_on3, e_par3, e_newK, e_getK, e_keyI, e_keyS, e_inK, e_ninK, e_putK, e_lenK, e_lstS, e_seqX, e_gTpT, e_oN, e_oS, e_sl, e_slT, e_slL, e_finT, e_finN, e_index, e_idxT, e_idxL, e_mIx, e_ixST, e_ixSL, e_mtL, e_w, e_w1, e_w2, e_wE, e_wZ, e_itK, e_itT, e_itL, e_itT2, e_itL2, e_lc, e_for, e_wipe0, e_wipe, e_okI, e_okR, e_gSb, List.getElem?_cons_zero, List.getElem?_cons_succ, List.set_cons_zero, List.set_cons_succ, e_getD, e_get1, e_lockK, e_dlockK, e_wItemsK, e_wKeysK, e_getR, e_inR, e_ninR, e_dictP, e_sortTs, e_maxTs, e_pop, e_lenSetL, e_gSbK]
    exact q'
  · refine tuple_end (.inl ?_)
    have e : (List.range ns.length).map (fun k : Nat => rowD (sortI (ns.drop (pos ns (k : Int) + 1)))) = (ordT ns).map rowD := by unfold ordT; rw [List.map_map]; rfl
    rw [e]
    exact q
theorem compL_any {α : Type} {g : DTG} {te : DTE} {r : DEnv} {Q : List D → DSt → Prop} {xs : List D} (enc : α → D) (W : List α → List D → DSt → Prop)
    (step : ∀ (x : α) (left : List α) (acc : List D) (st : DSt) (N : DK), W (x :: left) acc st → (∀ y st4, W left (acc ++ [y]) st4 → N y st4) → g (enc x) r st fun r2 st2 => te r2 st2 N) (fin : ∀ acc st, W [] acc st → Q acc st) :
    ∀ (items : List α) (acc : List D) (st : DSt), W items acc st → compL ⟨xs, none⟩ g dtYes te r Q (items.map enc) acc st
  | [], acc, st, w => fin acc st w
  | d :: ds, acc, st, w => by
    show g (enc d) r st _
    exact step d ds acc st _ w fun y st4 w4 => compL_any enc W step fin ds _ st4 w4
def g_fewX : DRs := fun ds st Q => ∃ (p k m c : Nat), ds = [.ref p, .int (m : Nat), .int (c : Nat)] ∧ Pot (k + 40) p st ∧ m ≤ 16 ∧ c ≤ 16 ∧ ∀ (h : List Nat) (o : O), h.Nodup → (∀ k ∈ h, k < m) → h.length ≤ c → PotO k o → Q (histD h) (st.set p o)
theorem ar_fewX (ds : List D) (st : DSt) (Q : DK) (h : g_fewX ds st Q) : ds.length = 3 := by
  obtain ⟨_, _, _, _, rfl, _⟩ := h
  rfl
set_option maxHeartbeats 1000000 in
theorem sem_fewX (ds : List D) (st : DSt) (Q : DK) (h : g_fewX ds st Q) : F__law_few g_take g_mixed { nx := fun _ st' => Rt st Q .non st', rt := Rt st Q } (startD 3 ds) st := by
  obtain ⟨p, k, m, c, rfl, pot, m16, c16, q⟩ := h
  have lt := pot.lt
  have st3 : startD 3 [D.ref p, D.int (m : Nat), D.int (c : Nat)] = [some (.ref p), some (.int (m : Nat)), some (.int (c : Nat))] := rfl
  have big : (1000 : Nat) ≤ sizeLine := by decide
  simp only [F__law_few, st3]
  try simp only [e_var, e_C, e_op, e_neg, e_isN, e_notN, e_and, e_or, e_not, e_test, e_tAnd, e_tOr, e_tNot, e_tYes, e_if, e_aNil, e_aCons, e_tup, e_lst, e_lstN, e_len0, e_len1, e_len2, e_len3, e_len4, e_len5, e_cb, e_on1, e_on2, e_onI, e_onB, e_onO, e_onO0, e_onOO, e_I0, e_I, e_add, e_addT, e_addS, e_addL, e_addLR, e_addRL, e_addRR, e_mul, e_mulL, e_mulT, e_rev, e_revT, e_ix, e_eqI, e_eqS, e_eqB, e_neI, e_neS, e_neB, e_ltI, e_chain, e_len, e_abs, e_2I, e_tuple1, e_tuple2, e_tuple3, e_listT, e_listN, e_allR, e_seqT, e_seqK, e_seqL, e_isi, e_isB, e_notB, e_truth, e_next, e_drop, e_ret, e_retN, e_ifS, e_set, e_asg, e_par, e_nm, e_gsN, e_gsC, e_gTpK, e_gTpL, e_sum, e_maxL, e_minL, e_maxDef, e_int, e_intB, e_aug, e_on3, e_par3, e_newK, e_getK, e_keyI, e_keyS, e_inK, e_ninK, e_putK, e_lenK, e_lstS, e_seqX, e_gTpT, e_oN, e_oS, e_sl, e_slT, e_slL, e_finT, e_finN, e_index, e_idxT, e_idxL, e_mIx, e_ixST, e_ixSL, e_mtL, e_w, e_w1, e_w2, e_wE, e_wZ, e_itK, e_itT, e_itL, e_itT2, e_itL2, e_lc, e_for, e_wipe0, e_wipe, e_okI, e_okR, e_gSb, List.getElem?_cons_zero, List.getElem?_cons_succ, List.set_cons_zero, List.set_cons_succ, e_getD, e_get1, e_lockK, e_dlockK, e_wItemsK, e_wKeysK, e_getR, e_inR, e_ninR, e_dictP, e_sortTs, e_maxTs, e_pop, e_lenSetL, e_gSbK]
  unfold dLRg1
  try simp only [e_var, e_C, e_op, e_neg, e_isN, e_notN, e_and, e_or, e_not, e_test, e_tAnd, e_tOr, e_tNot, e_tYes, e_if, e_aNil, e_aCons, e_tup, e_lst, e_lstN, e_len0, e_len1, e_len2, e_len3, e_len4, e_len5, e_cb, e_on1, e_on2, e_onI, e_onB, e_onO, e_onO0, e_onOO, e_I0, e_I, e_add, e_addT, e_addS, e_addL, e_addLR, e_addRL, e_addRR, e_mul, e_mulL, e_mulT, e_rev, e_revT, e_ix, e_eqI, e_eqS, e_eqB, e_neI, e_neS, e_neB, e_ltI, e_chain, e_len, e_abs, e_2I, e_tuple1, e_tuple2, e_tuple3, e_listT, e_listN, e_allR, e_seqT, e_seqK, e_seqL, e_isi, e_isB, e_notB, e_truth, e_next, e_drop, e_ret, e_retN, e_ifS, e_set, e_asg, e_par, e_nm, e_gsN, e_gsC, e_gTpK, e_gTpL, e_sum, e_maxL, e_minL, e_maxDef, e_int, e_intB, e_aug, e_on3, e_par3, e_newK, e_getK, e_keyI, e_keyS, e_inK, e_ninK, e_putK, e_lenK, e_lstS, e_seqX, e_gTpT, e_oN, e_oS, e_sl, e_slT, e_slL, e_finT, e_finN, e_index, e_idxT, e_idxL, e_mIx, e_ixST, e_ixSL, e_mtL, e_w, e_w1, e_w2, e_wE, e_wZ, e_itK, e_itT, e_itL, e_itT2, e_itL2, e_lc, e_for, e_wipe0, e_wipe, e_okI, e_okR, e_gSb, List.getElem?_cons_zero, List.getElem?_cons_succ, List.set_cons_zero, List.set_cons_succ, e_getD, e_get1, e_lockK, e_dlockK, e_wItemsK, e_wKeysK, e_getR, e_inR, e_ninR, e_dictP, e_sortTs, e_maxTs, e_pop, e_lenSetL, e_gSbK]
  refine ⟨RgOk.of_le (by decide) (by omega) (by decide) (by omega), p, _, rgD 0 m, k + 20, rfl, rfl, (fun z => by cases z), by rw [rgD_length]; omega, fun d hd => ?_, by rw [rgD_length]; exact pot.less (by omega), fun ys o1 pm po1 => ?_⟩
  · obtain ⟨i, li, rfl⟩ := rgD_mem hd
    exact (sm_int (by omega) (by omega)).mono (by decide) (by decide)
  obtain ⟨ord, rfl, oo⟩ := mixed_ord pm
  try simp only [e_var, e_C, e_op, e_neg, e_isN, e_notN, e_and, e_or, e_not, e_test, e_tAnd, e_tOr, e_tNot, e_tYes, e_if, e_aNil, e_aCons, e_tup, e_lst, e_lstN, e_len0, e_len1, e_len2, e_len3, e_len4, e_len5, e_cb, e_on1, e_on2, e_onI, e_onB, e_onO, e_onO0, e_onOO, e_I0, e_I, e_add, e_addT, e_addS, e_addL, e_addLR, e_addRL, e_addRR, e_mul, e_mulL, e_mulT, e_rev, e_revT, e_ix, e_eqI, e_eqS, e_eqB, e_neI, e_neS, e_neB, e_ltI, e_chain, e_len, e_abs, e_2I, e_tuple1, e_tuple2, e_tuple3, e_listT, e_listN, e_allR, e_seqT, e_seqK, e_seqL, e_isi, e_isB, e_notB, e_truth, e_next, e_drop, e_ret, e_retN, e_ifS, e_set, e_asg, e_par, e_nm, e_gsN, e_gsC, e_gTpK, e_gTpL, e_sum, e_maxL, e_minL, e_maxDef, e_int, e_intB, e_aug, e_on3, e_par3, e_newK, e_getK, e_keyI, e_keyS, e_inK, e_ninK, e_putK, e_lenK, e_lstS, e_seqX, e_gTpT, e_oN, e_oS, e_sl, e_slT, e_slL, e_finT, e_finN, e_index, e_idxT, e_idxL, e_mIx, e_ixST, e_ixSL, e_mtL, e_w, e_w1, e_w2, e_wE, e_wZ, e_itK, e_itT, e_itL, e_itT2, e_itL2, e_lc, e_for, e_wipe0, e_wipe, e_okI, e_okR, e_gSb, List.getElem?_cons_zero, List.getElem?_cons_succ, List.set_cons_zero, List.set_cons_succ, e_getD, e_get1, e_lockK, e_dlockK, e_wItemsK, e_wKeysK, e_getR, e_inR, e_ninR, e_dictP, e_sortTs, e_maxTs, e_pop, e_lenSetL, e_gSbK]
  have e1 : ((c : Int) + 1) = ((c + 1 : Nat) : Int) := by omega
  rw [e1]
  refine take_ev (n := k + 19) (Pot.set lt po1) (by omega) (by omega) fun t o2 tc po2 => ?_
  rw [List.set_set]
  rw [e_onI, cutH, ← List.map_take]
  have nd : (ord.take t).Nodup := oo.nd.sublist (List.take_sublist _ _)
  have sub : ∀ x ∈ ord.take t, 0 ≤ x ∧ x < (m : Int) := fun x hx => oo.mem.mp ((List.take_sublist _ _).subset hx)
  have ln : (ord.take t).length ≤ c := by rw [List.length_take]; omega
  generalize ord.take t = xs at nd sub ln
  refine sort_ev (ns := xs) rfl (by omega) (tuple_end ?_)
  have pm := sortI_perm xs
  obtain ⟨h, eh⟩ := nat_list (xs := sortI xs) fun x hx => (sub x (pm.mem_iff.mp hx)).1
  have asc := sort_asc nd
  rw [eh] at pm asc
  rw [eh, List.map_map]
  have lh : h.length = xs.length := by have := pm.length_eq; simpa using this
  refine .inl (q h o2 ((List.pairwise_map.mp asc).imp fun {a b} l e => by omega) (fun a ha => ?_) (by omega) (po2.less (by omega)))
  have := sub (a : Int) (pm.mem_iff.mp (List.mem_map.mpr ⟨a, ha, rfl⟩))
  omega
end DL
--ELX
namespace DL
open PySem PySem.Spec PyProof.Rows L2 LamX PySem.W SL
theorem enumD_rows {P : List (List Int)} : enumD (P.map rowD) = (List.range P.length).map fun j : Nat => D.tuk [.int (j : Nat), rowD (P.getD j [])] := by
  refine List.ext_getElem? fun i => ?_
  unfold enumD
  rw [List.getElem?_map, List.getElem?_zipIdx, List.getElem?_map, List.getElem?_map]
  rcases Nat.lt_or_ge i P.length with q | q
  · rw [List.getElem?_range q, List.getElem?_eq_getElem q]
    show some (D.tuk [.int ((0 + i : Nat) : Int), rowD P[i]]) = some (D.tuk [.int (i : Nat), rowD (P.getD i [])])
    rw [List.getD_eq_getElem?_getD, List.getElem?_eq_getElem q, Nat.zero_add]
    rfl
  · rw [List.getElem?_eq_none q, List.getElem?_eq_none (by simpa using q)]
    rfl
def tr3 (t : Int × Int × Int) : D := .tup [.int t.1, .int t.2.1, .int t.2.2]
def g_lateX : DRs := fun ds st Q => ∃ (p k m n : Nat) (P : List (List Int)), ds = [.ref p, rowsD P, .int (n : Nat)] ∧ Pot (k + 400) p st ∧ P.length = m ∧ 1 ≤ m ∧ m ≤ 16 ∧ 1 ≤ n ∧ n ≤ 16 ∧ (∀ x ∈ P, Ord n x) ∧ ∀ (os : List (List Int)) (o : O), os.length = n → (∀ x ∈ os, Ord m x) → PotO k o → Q (tabsD (os.map ordT)) (st.set p o)
theorem ar_lateX (ds : List D) (st : DSt) (Q : DK) (h : g_lateX ds st Q) : ds.length = 3 := by
  obtain ⟨_, _, _, _, _, rfl, _⟩ := h
  rfl
set_option maxHeartbeats 8000000 in
theorem sem_lateX (ds : List D) (st : DSt) (Q : DK) (h : g_lateX ds st Q) : F__law_late_tables g_take g_tabOfX { nx := fun _ st' => Rt st Q .non st', rt := Rt st Q } (startD 12 ds) st := by
  obtain ⟨p, k, m, n, P, rfl, pot, lP, m1, m16, n1, n16, oP, q⟩ := h
  have lt := pot.lt
  have st12 : startD 12 [D.ref p, rowsD P, D.int (n : Nat)] = [some (.ref p), some (.tup (P.map rowD)), some (.int (n : Nat)), none, none, none, none, none, none, none, none, none] := rfl
  have big : (1000 : Nat) ≤ sizeLine := by decide
  obtain ⟨o0, eo0, po0⟩ := pot
  have s0 : st = st.set p o0 := (set_self eo0).symm
  simp only [F__law_late_tables, st12]
  try dsimp only
  rw [e_seq]
  try simp only [e_var, e_C, e_op, e_neg, e_isN, e_notN, e_and, e_or, e_not, e_test, e_tAnd, e_tOr, e_tNot, e_tYes, e_if, e_aNil, e_aCons, e_tup, e_lst, e_lstN, e_len0, e_len1, e_len2, e_len3, e_len4, e_len5, e_cb, e_on1, e_on2, e_onI, e_onB, e_onO, e_onO0, e_onOO, e_I0, e_I, e_add, e_addT, e_addS, e_addL, e_addLR, e_addRL, e_addRR, e_mul, e_mulL, e_mulT, e_rev, e_revT, e_ix, e_eqI, e_eqS, e_eqB, e_neI, e_neS, e_neB, e_ltI, e_chain, e_len, e_abs, e_2I, e_tuple1, e_tuple2, e_tuple3, e_listT, e_listN, e_allR, e_seqT, e_seqK, e_seqL, e_isi, e_isB, e_notB, e_truth, e_next, e_drop, e_ret, e_retN, e_ifS, e_set, e_asg, e_par, e_nm, e_gsN, e_gsC, e_gTpK, e_gTpL, e_sum, e_maxL, e_minL, e_maxDef, e_int, e_intB, e_aug, e_on3, e_par3, e_newK, e_getK, e_keyI, e_keyS, e_inK, e_ninK, e_putK, e_lenK, e_lstS, e_seqX, e_gTpT, e_oN, e_oS, e_sl, e_slT, e_slL, e_finT, e_finN, e_index, e_idxT, e_idxL, e_mIx, e_ixST, e_ixSL, e_mtL, e_w, e_w1, e_w2, e_wE, e_wZ, e_itK, e_itT, e_itL, e_itT2, e_itL2, e_lc, e_for, e_wipe0, e_wipe, e_okI, e_okR, e_gSb, List.getElem?_cons_zero, List.getElem?_cons_succ, List.set_cons_zero, List.set_cons_succ, e_getD, e_get1, e_lockK, e_dlockK, e_wItemsK, e_wKeysK, e_getR, e_inR, e_ninR, e_dictP, e_sortTs, e_maxTs, e_pop, e_lenSetL, e_gSbK]
  try dsimp only
  rw [e_seq]
  try simp only [e_var, e_C, e_op, e_neg, e_isN, e_notN, e_and, e_or, e_not, e_test, e_tAnd, e_tOr, e_tNot, e_tYes, e_if, e_aNil, e_aCons, e_tup, e_lst, e_lstN, e_len0, e_len1, e_len2, e_len3, e_len4, e_len5, e_cb, e_on1, e_on2, e_onI, e_onB, e_onO, e_onO0, e_onOO, e_I0, e_I, e_add, e_addT, e_addS, e_addL, e_addLR, e_addRL, e_addRR, e_mul, e_mulL, e_mulT, e_rev, e_revT, e_ix, e_eqI, e_eqS, e_eqB, e_neI, e_neS, e_neB, e_ltI, e_chain, e_len, e_abs, e_2I, e_tuple1, e_tuple2, e_tuple3, e_listT, e_listN, e_allR, e_seqT, e_seqK, e_seqL, e_isi, e_isB, e_notB, e_truth, e_next, e_drop, e_ret, e_retN, e_ifS, e_set, e_asg, e_par, e_nm, e_gsN, e_gsC, e_gTpK, e_gTpL, e_sum, e_maxL, e_minL, e_maxDef, e_int, e_intB, e_aug, e_on3, e_par3, e_newK, e_getK, e_keyI, e_keyS, e_inK, e_ninK, e_putK, e_lenK, e_lstS, e_seqX, e_gTpT, e_oN, e_oS, e_sl, e_slT, e_slL, e_finT, e_finN, e_index, e_idxT, e_idxL, e_mIx, e_ixST, e_ixSL, e_mtL, e_w, e_w1, e_w2, e_wE, e_wZ, e_itK, e_itT, e_itL, e_itT2, e_itL2, e_lc, e_for, e_wipe0, e_wipe, e_okI, e_okR, e_gSb, List.getElem?_cons_zero, List.getElem?_cons_succ, List.set_cons_zero, List.set_cons_succ, e_getD, e_get1, e_lockK, e_dlockK, e_wItemsK, e_wKeysK, e_getR, e_inR, e_ninR, e_dictP, e_sortTs, e_maxTs, e_pop, e_lenSetL, e_gSbK, Int.toNat_natCast]
  refine ⟨⟨by omega, by omega⟩, ?_⟩
  refine for_inv (fun left r st' => ∃ (i : Nat) (os : List (List Int)) (o : O) (js : DSt) (x4 x5 x6 x7 : Option D), left = (rgD 0 n).drop i ∧ r = [some (.ref p), some (.tup (P.map rowD)), some (.int (n : Nat)), some (.ref st.length), x4, x5, x6, x7, none, none, none, none] ∧ st' = st.set p o ++ .lst ((os.map DL.ordT).map rowsD) :: js ∧ os.length = i ∧ (∀ x ∈ os, Ord m x) ∧ i ≤ n ∧ PotO (k + 20 * (n - i)) o) ?_ ?_ _ _ _ ⟨0, [], o0, [], _, _, _, _, rfl, rfl, by rw [← s0]; rfl, rfl, fun x hx => (by cases hx), Nat.zero_le _, po0.less (by omega)⟩
  · rintro d left r st' N hN ⟨i, os, o, js, x4, x5, x6, x7, el, rfl, rfl, lo, oo, li, po⟩
    have iln : i < n := by
      have := congrArg List.length el
      rw [List.length_drop, rgD_length, List.length_cons] at this
      omega
    have ed : d = .int (i : Nat) ∧ left = (rgD 0 n).drop (i + 1) := by
      have z : (rgD 0 n).drop i = (rgD 0 n)[i]'(by rw [rgD_length]; exact iln) :: (rgD 0 n).drop (i + 1) := List.drop_eq_getElem_cons (by rw [rgD_length]; exact iln)
      rw [z] at el
      injection el with e1 e2
      refine ⟨?_, e2⟩
      rw [e1]
      simp [rgD]
    obtain ⟨rfl, el2⟩ := ed
    have po' : PotO (k + 20 * (n - (i + 1)) + 20) o := po.less (by omega)
    generalize hb : k + 20 * (n - (i + 1)) = kb at po'
    try simp only [e_var, e_C, e_op, e_neg, e_isN, e_notN, e_and, e_or, e_not, e_test, e_tAnd, e_tOr, e_tNot, e_tYes, e_if, e_aNil, e_aCons, e_tup, e_lst, e_lstN, e_len0, e_len1, e_len2, e_len3, e_len4, e_len5, e_cb, e_on1, e_on2, e_onI, e_onB, e_onO, e_onO0, e_onOO, e_I0, e_I, e_add, e_addT, e_addS, e_addL, e_addLR, e_addRL, e_addRR, e_mul, e_mulL, e_mulT, e_rev, e_revT, e_ix, e_eqI, e_eqS, e_eqB, e_neI, e_neS, e_neB, e_ltI, e_chain, e_len, e_abs, e_2I, e_tuple1, e_tuple2, e_tuple3, e_listT, e_listN, e_allR, e_seqT, e_seqK, e_seqL, e_isi, e_isB, e_notB, e_truth, e_next, e_drop, e_ret, e_retN, e_ifS, e_set, e_asg, e_par, e_nm, e_gsN, e_gsC, e_gTpK, e_gTpL, e_sum, e_maxL, e_minL, e_maxDef, e_int, e_intB, e_aug, e_on3, e_par3, e_newK, e_getK, e_keyI, e_keyS, e_inK, e_ninK, e_putK, e_lenK, e_lstS, e_seqX, e_gTpT, e_oN, e_oS, e_sl, e_slT, e_slL, e_finT, e_finN, e_index, e_idxT, e_idxL, e_mIx, e_ixST, e_ixSL, e_mtL, e_w, e_w1, e_w2, e_wE, e_wZ, e_itK, e_itT, e_itL, e_itT2, e_itL2, e_lc, e_for, e_wipe0, e_wipe, e_okI, e_okR, e_gSb, List.getElem?_cons_zero, List.getElem?_cons_succ, List.set_cons_zero, List.set_cons_succ, e_getD, e_get1, e_lockK, e_dlockK, e_wItemsK, e_wKeysK, e_getR, e_inR, e_ninR, e_dictP, e_sortTs, e_maxTs, e_pop, e_lenSetL, e_gSbK]
    try dsimp only
    rw [e_seq]
    try simp only [e_var, e_C, e_op, e_neg, e_isN, e_notN, e_and, e_or, e_not, e_test, e_tAnd, e_tOr, e_tNot, e_tYes, e_if, e_aNil, e_aCons, e_tup, e_lst, e_lstN, e_len0, e_len1, e_len2, e_len3, e_len4, e_len5, e_cb, e_on1, e_on2, e_onI, e_onB, e_onO, e_onO0, e_onOO, e_I0, e_I, e_add, e_addT, e_addS, e_addL, e_addLR, e_addRL, e_addRR, e_mul, e_mulL, e_mulT, e_rev, e_revT, e_ix, e_eqI, e_eqS, e_eqB, e_neI, e_neS, e_neB, e_ltI, e_chain, e_len, e_abs, e_2I, e_tuple1, e_tuple2, e_tuple3, e_listT, e_listN, e_allR, e_seqT, e_seqK, e_seqL, e_isi, e_isB, e_notB, e_truth, e_next, e_drop, e_ret, e_retN, e_ifS, e_set, e_asg, e_par, e_nm, e_gsN, e_gsC, e_gTpK, e_gTpL, e_sum, e_maxL, e_minL, e_maxDef, e_int, e_intB, e_aug, e_on3, e_par3, e_newK, e_getK, e_keyI, e_keyS, e_inK, e_ninK, e_putK, e_lenK, e_lstS, e_seqX, e_gTpT, e_oN, e_oS, e_sl, e_slT, e_slL, e_finT, e_finN, e_index, e_idxT, e_idxL, e_mIx, e_ixST, e_ixSL, e_mtL, e_w, e_w1, e_w2, e_wE, e_wZ, e_itK, e_itT, e_itL, e_itT2, e_itL2, e_lc, e_for, e_wipe0, e_wipe, e_okI, e_okR, e_gSb, List.getElem?_cons_zero, List.getElem?_cons_succ, List.set_cons_zero, List.set_cons_succ, e_getD, e_get1, e_lockK, e_dlockK, e_wItemsK, e_wKeysK, e_getR, e_inR, e_ninR, e_dictP, e_sortTs, e_maxTs, e_pop, e_lenSetL, e_gSbK]
    rw [enumD_rows]
    refine ⟨by rw [List.length_map, List.length_range]; omega, ?_⟩
    refine compL_any (fun j : Nat => D.tuk [.int (j : Nat), rowD (P.getD j [])]) (fun left acc st' => ∃ (c : Nat) (trs : List (Int × Int × Int)) (o : O), left = (List.range P.length).drop c ∧ c ≤ m ∧ trs.map (fun t => t.2.2) = (List.range c).map (fun j : Nat => (j : Int)) ∧ acc = trs.map tr3 ∧ st' = st.set p o ++ .lst ((os.map DL.ordT).map rowsD) :: js ∧ PotO (kb + 20 - c) o) ?_ ?_ (List.range P.length) [] _ ⟨0, [], o, rfl, Nat.zero_le _, rfl, rfl, rfl, po'⟩
    · rintro j left3 acc st3 N3 ⟨c, trs, o3, e3, cm, et, rfl, rfl, po3⟩ hN3
      have cl : c < P.length := by
        have := congrArg List.length e3
        rw [List.length_drop, List.length_range, List.length_cons] at this
        omega
      have ej : j = c ∧ left3 = (List.range P.length).drop (c + 1) := by
        have z : (List.range P.length).drop c = (List.range P.length)[c]'(by rw [List.length_range]; exact cl) :: (List.range P.length).drop (c + 1) := List.drop_eq_getElem_cons (by rw [List.length_range]; exact cl)
        rw [z] at e3
        injection e3 with e1 e2
        exact ⟨by rw [e1]; simp, e2⟩
      obtain ⟨rfl, el3⟩ := ej
      have mi : (i : Int) ∈ P.getD j [] := (oP _ (getD_memL cl)).mem.mpr (by omega)
      have er2 : rowD (P.getD j []) = .tup ((P.getD j []).map D.int) := rfl
      try simp only [e_var, e_C, e_op, e_neg, e_isN, e_notN, e_and, e_or, e_not, e_test, e_tAnd, e_tOr, e_tNot, e_tYes, e_if, e_aNil, e_aCons, e_tup, e_lst, e_lstN, e_len0, e_len1, e_len2, e_len3, e_len4, e_len5, e_cb, e_on1, e_on2, e_onI, e_onB, e_onO, e_onO0, e_onOO, e_I0, e_I, e_add, e_addT, e_addS, e_addL, e_addLR, e_addRL, e_addRR, e_mul, e_mulL, e_mulT, e_rev, e_revT, e_ix, e_eqI, e_eqS, e_eqB, e_neI, e_neS, e_neB, e_ltI, e_chain, e_len, e_abs, e_2I, e_tuple1, e_tuple2, e_tuple3, e_listT, e_listN, e_allR, e_seqT, e_seqK, e_seqL, e_isi, e_isB, e_notB, e_truth, e_next, e_drop, e_ret, e_retN, e_ifS, e_set, e_asg, e_par, e_nm, e_gsN, e_gsC, e_gTpK, e_gTpL, e_sum, e_maxL, e_minL, e_maxDef, e_int, e_intB, e_aug, e_on3, e_par3, e_newK, e_getK, e_keyI, e_keyS, e_inK, e_ninK, e_putK, e_lenK, e_lstS, e_seqX, e_gTpT, e_oN, e_oS, e_sl, e_slT, e_slL, e_finT, e_finN, e_index, e_idxT, e_idxL, e_mIx, e_ixST, e_ixSL, e_mtL, e_w, e_w1, e_w2, e_wE, e_wZ, e_itK, e_itT, e_itL, e_itT2, e_itL2, e_lc, e_for, e_wipe0, e_wipe, e_okI, e_okR, e_gSb, List.getElem?_cons_zero, List.getElem?_cons_succ, List.set_cons_zero, List.set_cons_succ, e_getD, e_get1, e_lockK, e_dlockK, e_wItemsK, e_wKeysK, e_getR, e_inR, e_ninR, e_dictP, e_sortTs, e_maxTs, e_pop, e_lenSetL, e_gSbK]
      refine ⟨rfl, ?_⟩
      try simp only [e_var, e_C, e_op, e_neg, e_isN, e_notN, e_and, e_or, e_not, e_test, e_tAnd, e_tOr, e_tNot, e_tYes, e_if, e_aNil, e_aCons, e_tup, e_lst, e_lstN, e_len0, e_len1, e_len2, e_len3, e_len4, e_len5, e_cb, e_on1, e_on2, e_onI, e_onB, e_onO, e_onO0, e_onOO, e_I0, e_I, e_add, e_addT, e_addS, e_addL, e_addLR, e_addRL, e_addRR, e_mul, e_mulL, e_mulT, e_rev, e_revT, e_ix, e_eqI, e_eqS, e_eqB, e_neI, e_neS, e_neB, e_ltI, e_chain, e_len, e_abs, e_2I, e_tuple1, e_tuple2, e_tuple3, e_listT, e_listN, e_allR, e_seqT, e_seqK, e_seqL, e_isi, e_isB, e_notB, e_truth, e_next, e_drop, e_ret, e_retN, e_ifS, e_set, e_asg, e_par, e_nm, e_gsN, e_gsC, e_gTpK, e_gTpL, e_sum, e_maxL, e_minL, e_maxDef, e_int, e_intB, e_aug, e_on3, e_par3, e_newK, e_getK, e_keyI, e_keyS, e_inK, e_ninK, e_putK, e_lenK, e_lstS, e_seqX, e_gTpT, e_oN, e_oS, e_sl, e_slT, e_slL, e_finT, e_finN, e_index, e_idxT, e_idxL, e_mIx, e_ixST, e_ixSL, e_mtL, e_w, e_w1, e_w2, e_wE, e_wZ, e_itK, e_itT, e_itL, e_itT2, e_itL2, e_lc, e_for, e_wipe0, e_wipe, e_okI, e_okR, e_gSb, List.getElem?_cons_zero, List.getElem?_cons_succ, List.set_cons_zero, List.set_cons_succ, e_getD, e_get1, e_lockK, e_dlockK, e_wItemsK, e_wKeysK, e_getR, e_inR, e_ninR, e_dictP, e_sortTs, e_maxTs, e_pop, e_lenSetL, e_gSbK, er2, intsD_ints, (pos_at mi).2, true_and]
      refine take_ev (n := kb + 20 - (j + 1)) (pot_at lt (po3.less (by omega))) (by decide) (by decide) fun t o4 lt9 po4 => ?_
      rw [pot_app lt]
      refine hN3 _ _ ⟨j + 1, trs ++ [(0 - ((pos (P.getD j []) (i : Int) : Nat) : Int), (t : Int), (j : Int))], o4, el3, by omega, ?_, ?_, rfl, po4⟩
      · rw [List.map_append, et, List.range_succ, List.map_append]
        rfl
      · rw [List.map_append]
        rfl
    · rintro acc st3 ⟨c, trs, o3, e3, cm, et, rfl, rfl, po3⟩
      have cN : c = m := by
        have := congrArg List.length e3
        rw [List.length_drop, List.length_range] at this
        simp at this
        omega
      subst cN
      have sqL : ∀ xs : List D, dDictP.seqL (st.set p o3 ++ .lst ((os.map DL.ordT).map rowsD) :: js) (D.lst xs) = some xs := fun _ => rfl
      refine fin_lst ?_
      try simp only [e_var, e_C, e_op, e_neg, e_isN, e_notN, e_and, e_or, e_not, e_test, e_tAnd, e_tOr, e_tNot, e_tYes, e_if, e_aNil, e_aCons, e_tup, e_lst, e_lstN, e_len0, e_len1, e_len2, e_len3, e_len4, e_len5, e_cb, e_on1, e_on2, e_onI, e_onB, e_onO, e_onO0, e_onOO, e_I0, e_I, e_add, e_addT, e_addS, e_addL, e_addLR, e_addRL, e_addRR, e_mul, e_mulL, e_mulT, e_rev, e_revT, e_ix, e_eqI, e_eqS, e_eqB, e_neI, e_neS, e_neB, e_ltI, e_chain, e_len, e_abs, e_2I, e_tuple1, e_tuple2, e_tuple3, e_listT, e_listN, e_allR, e_seqT, e_seqK, e_seqL, e_isi, e_isB, e_notB, e_truth, e_next, e_drop, e_ret, e_retN, e_ifS, e_set, e_asg, e_par, e_nm, e_gsN, e_gsC, e_gTpK, e_gTpL, e_sum, e_maxL, e_minL, e_maxDef, e_int, e_intB, e_aug, e_on3, e_par3, e_newK, e_getK, e_keyI, e_keyS, e_inK, e_ninK, e_putK, e_lenK, e_lstS, e_seqX, e_gTpT, e_oN, e_oS, e_sl, e_slT, e_slL, e_finT, e_finN, e_index, e_idxT, e_idxL, e_mIx, e_ixST, e_ixSL, e_mtL, e_w, e_w1, e_w2, e_wE, e_wZ, e_itK, e_itT, e_itL, e_itT2, e_itL2, e_lc, e_for, e_wipe0, e_wipe, e_okI, e_okR, e_gSb, List.getElem?_cons_zero, List.getElem?_cons_succ, List.set_cons_zero, List.set_cons_succ, e_getD, e_get1, e_lockK, e_dlockK, e_wItemsK, e_wKeysK, e_getR, e_inR, e_ninR, e_dictP, e_sortTs, e_maxTs, e_pop, e_lenSetL, e_gSbK, sqL]
      refine ⟨3, by decide, fun x hx => ?_, fun out po so => ?_⟩
      · obtain ⟨t, _, rfl⟩ := List.mem_map.mp hx
        exact ⟨_, rfl, rfl⟩
      obtain ⟨ts, pt, rfl⟩ := perm_unmap (f := tr3) (fun d => match d with | .tup [.int a, .int b, .int c] => (a, b, c) | _ => (0, 0, 0)) (fun t _ => rfl) po
      clear po so
      have o3r : Ord c (ts.map fun t => t.2.2) := ⟨by
        have z := pt.map fun t : Int × Int × Int => t.2.2
        rw [et] at z
        exact z⟩
      have lts : ts.length = c := by have := o3r.len; rw [List.length_map] at this; exact this
      try simp only [e_var, e_C, e_op, e_neg, e_isN, e_notN, e_and, e_or, e_not, e_test, e_tAnd, e_tOr, e_tNot, e_tYes, e_if, e_aNil, e_aCons, e_tup, e_lst, e_lstN, e_len0, e_len1, e_len2, e_len3, e_len4, e_len5, e_cb, e_on1, e_on2, e_onI, e_onB, e_onO, e_onO0, e_onOO, e_I0, e_I, e_add, e_addT, e_addS, e_addL, e_addLR, e_addRL, e_addRR, e_mul, e_mulL, e_mulT, e_rev, e_revT, e_ix, e_eqI, e_eqS, e_eqB, e_neI, e_neS, e_neB, e_ltI, e_chain, e_len, e_abs, e_2I, e_tuple1, e_tuple2, e_tuple3, e_listT, e_listN, e_allR, e_seqT, e_seqK, e_seqL, e_isi, e_isB, e_notB, e_truth, e_next, e_drop, e_ret, e_retN, e_ifS, e_set, e_asg, e_par, e_nm, e_gsN, e_gsC, e_gTpK, e_gTpL, e_sum, e_maxL, e_minL, e_maxDef, e_int, e_intB, e_aug, e_on3, e_par3, e_newK, e_getK, e_keyI, e_keyS, e_inK, e_ninK, e_putK, e_lenK, e_lstS, e_seqX, e_gTpT, e_oN, e_oS, e_sl, e_slT, e_slL, e_finT, e_finN, e_index, e_idxT, e_idxL, e_mIx, e_ixST, e_ixSL, e_mtL, e_w, e_w1, e_w2, e_wE, e_wZ, e_itK, e_itT, e_itL, e_itT2, e_itL2, e_lc, e_for, e_wipe0, e_wipe, e_okI, e_okR, e_gSb, List.getElem?_cons_zero, List.getElem?_cons_succ, List.set_cons_zero, List.set_cons_succ, e_getD, e_get1, e_lockK, e_dlockK, e_wItemsK, e_wKeysK, e_getR, e_inR, e_ninR, e_dictP, e_sortTs, e_maxTs, e_pop, e_lenSetL, e_gSbK]
      try dsimp only
      rw [e_seq]
      try simp only [e_var, e_C, e_op, e_neg, e_isN, e_notN, e_and, e_or, e_not, e_test, e_tAnd, e_tOr, e_tNot, e_tYes, e_if, e_aNil, e_aCons, e_tup, e_lst, e_lstN, e_len0, e_len1, e_len2, e_len3, e_len4, e_len5, e_cb, e_on1, e_on2, e_onI, e_onB, e_onO, e_onO0, e_onOO, e_I0, e_I, e_add, e_addT, e_addS, e_addL, e_addLR, e_addRL, e_addRR, e_mul, e_mulL, e_mulT, e_rev, e_revT, e_ix, e_eqI, e_eqS, e_eqB, e_neI, e_neS, e_neB, e_ltI, e_chain, e_len, e_abs, e_2I, e_tuple1, e_tuple2, e_tuple3, e_listT, e_listN, e_allR, e_seqT, e_seqK, e_seqL, e_isi, e_isB, e_notB, e_truth, e_next, e_drop, e_ret, e_retN, e_ifS, e_set, e_asg, e_par, e_nm, e_gsN, e_gsC, e_gTpK, e_gTpL, e_sum, e_maxL, e_minL, e_maxDef, e_int, e_intB, e_aug, e_on3, e_par3, e_newK, e_getK, e_keyI, e_keyS, e_inK, e_ninK, e_putK, e_lenK, e_lstS, e_seqX, e_gTpT, e_oN, e_oS, e_sl, e_slT, e_slL, e_finT, e_finN, e_index, e_idxT, e_idxL, e_mIx, e_ixST, e_ixSL, e_mtL, e_w, e_w1, e_w2, e_wE, e_wZ, e_itK, e_itT, e_itL, e_itT2, e_itL2, e_lc, e_for, e_wipe0, e_wipe, e_okI, e_okR, e_gSb, List.getElem?_cons_zero, List.getElem?_cons_succ, List.set_cons_zero, List.set_cons_succ, e_getD, e_get1, e_lockK, e_dlockK, e_wItemsK, e_wKeysK, e_getR, e_inR, e_ninR, e_dictP, e_sortTs, e_maxTs, e_pop, e_lenSetL, e_gSbK, List.length_map]
      refine ⟨by omega, ?_⟩
      refine compL_gen tr3 (fun t => D.int t.2.2) ts [] (fun t ht Q' kk => ?_) ?_
      · unfold tr3
        try simp only [e_var, e_C, e_op, e_neg, e_isN, e_notN, e_and, e_or, e_not, e_test, e_tAnd, e_tOr, e_tNot, e_tYes, e_if, e_aNil, e_aCons, e_tup, e_lst, e_lstN, e_len0, e_len1, e_len2, e_len3, e_len4, e_len5, e_cb, e_on1, e_on2, e_onI, e_onB, e_onO, e_onO0, e_onOO, e_I0, e_I, e_add, e_addT, e_addS, e_addL, e_addLR, e_addRL, e_addRR, e_mul, e_mulL, e_mulT, e_rev, e_revT, e_ix, e_eqI, e_eqS, e_eqB, e_neI, e_neS, e_neB, e_ltI, e_chain, e_len, e_abs, e_2I, e_tuple1, e_tuple2, e_tuple3, e_listT, e_listN, e_allR, e_seqT, e_seqK, e_seqL, e_isi, e_isB, e_notB, e_truth, e_next, e_drop, e_ret, e_retN, e_ifS, e_set, e_asg, e_par, e_nm, e_gsN, e_gsC, e_gTpK, e_gTpL, e_sum, e_maxL, e_minL, e_maxDef, e_int, e_intB, e_aug, e_on3, e_par3, e_newK, e_getK, e_keyI, e_keyS, e_inK, e_ninK, e_putK, e_lenK, e_lstS, e_seqX, e_gTpT, e_oN, e_oS, e_sl, e_slT, e_slL, e_finT, e_finN, e_index, e_idxT, e_idxL, e_mIx, e_ixST, e_ixSL, e_mtL, e_w, e_w1, e_w2, e_wE, e_wZ, e_itK, e_itT, e_itL, e_itT2, e_itL2, e_lc, e_for, e_wipe0, e_wipe, e_okI, e_okR, e_gSb, List.getElem?_cons_zero, List.getElem?_cons_succ, List.set_cons_zero, List.set_cons_succ, e_getD, e_get1, e_lockK, e_dlockK, e_wItemsK, e_wKeysK, e_getR, e_inR, e_ninR, e_dictP, e_sortTs, e_maxTs, e_pop, e_lenSetL, e_gSbK]
        refine ⟨rfl, kk _ fun Q2 q2 => ?_⟩
        try simp only [e_var, e_C, e_op, e_neg, e_isN, e_notN, e_and, e_or, e_not, e_test, e_tAnd, e_tOr, e_tNot, e_tYes, e_if, e_aNil, e_aCons, e_tup, e_lst, e_lstN, e_len0, e_len1, e_len2, e_len3, e_len4, e_len5, e_cb, e_on1, e_on2, e_onI, e_onB, e_onO, e_onO0, e_onOO, e_I0, e_I, e_add, e_addT, e_addS, e_addL, e_addLR, e_addRL, e_addRR, e_mul, e_mulL, e_mulT, e_rev, e_revT, e_ix, e_eqI, e_eqS, e_eqB, e_neI, e_neS, e_neB, e_ltI, e_chain, e_len, e_abs, e_2I, e_tuple1, e_tuple2, e_tuple3, e_listT, e_listN, e_allR, e_seqT, e_seqK, e_seqL, e_isi, e_isB, e_notB, e_truth, e_next, e_drop, e_ret, e_retN, e_ifS, e_set, e_asg, e_par, e_nm, e_gsN, e_gsC, e_gTpK, e_gTpL, e_sum, e_maxL, e_minL, e_maxDef, e_int, e_intB, e_aug, e_on3, e_par3, e_newK, e_getK, e_keyI, e_keyS, e_inK, e_ninK, e_putK, e_lenK, e_lstS, e_seqX, e_gTpT, e_oN, e_oS, e_sl, e_slT, e_slL, e_finT, e_finN, e_index, e_idxT, e_idxL, e_mIx, e_ixST, e_ixSL, e_mtL, e_w, e_w1, e_w2, e_wE, e_wZ, e_itK, e_itT, e_itL, e_itT2, e_itL2, e_lc, e_for, e_wipe0, e_wipe, e_okI, e_okR, e_gSb, List.getElem?_cons_zero, List.getElem?_cons_succ, List.set_cons_zero, List.set_cons_succ, e_getD, e_get1, e_lockK, e_dlockK, e_wItemsK, e_wKeysK, e_getR, e_inR, e_ninR, e_dictP, e_sortTs, e_maxTs, e_pop, e_lenSetL, e_gSbK]
        exact q2
      rw [List.nil_append]
      have en : ts.map (fun t => D.int t.2.2) = (ts.map fun t => t.2.2).map D.int := by rw [List.map_map]; rfl
      rw [en]
      generalize ts.map (fun t => t.2.2) = ord at o3r
      have lo3 := o3r.len
      try simp only [e_var, e_C, e_op, e_neg, e_isN, e_notN, e_and, e_or, e_not, e_test, e_tAnd, e_tOr, e_tNot, e_tYes, e_if, e_aNil, e_aCons, e_tup, e_lst, e_lstN, e_len0, e_len1, e_len2, e_len3, e_len4, e_len5, e_cb, e_on1, e_on2, e_onI, e_onB, e_onO, e_onO0, e_onOO, e_I0, e_I, e_add, e_addT, e_addS, e_addL, e_addLR, e_addRL, e_addRR, e_mul, e_mulL, e_mulT, e_rev, e_revT, e_ix, e_eqI, e_eqS, e_eqB, e_neI, e_neS, e_neB, e_ltI, e_chain, e_len, e_abs, e_2I, e_tuple1, e_tuple2, e_tuple3, e_listT, e_listN, e_allR, e_seqT, e_seqK, e_seqL, e_isi, e_isB, e_notB, e_truth, e_next, e_drop, e_ret, e_retN, e_ifS, e_set, e_asg, e_par, e_nm, e_gsN, e_gsC, e_gTpK, e_gTpL, e_sum, e_maxL, e_minL, e_maxDef, e_int, e_intB, e_aug, e_on3, e_par3, e_newK, e_getK, e_keyI, e_keyS, e_inK, e_ninK, e_putK, e_lenK, e_lstS, e_seqX, e_gTpT, e_oN, e_oS, e_sl, e_slT, e_slL, e_finT, e_finN, e_index, e_idxT, e_idxL, e_mIx, e_ixST, e_ixSL, e_mtL, e_w, e_w1, e_w2, e_wE, e_wZ, e_itK, e_itT, e_itL, e_itT2, e_itL2, e_lc, e_for, e_wipe0, e_wipe, e_okI, e_okR, e_gSb, List.getElem?_cons_zero, List.getElem?_cons_succ, List.set_cons_zero, List.set_cons_succ, e_getD, e_get1, e_lockK, e_dlockK, e_wItemsK, e_wKeysK, e_getR, e_inR, e_ninR, e_dictP, e_sortTs, e_maxTs, e_pop, e_lenSetL, e_gSbK]
      have eS : ∀ (o : O) (T : List D) (x : List Int), st.set p o ++ .lst T :: js ++ [O.lst (x.map D.int)] = st.set p o ++ .lst T :: (js ++ [O.lst (x.map D.int)]) := fun o T x => by simp
      have oQ : ∀ (o : O) (T : List D) (x : List Int), (st.set p o ++ .lst T :: (js ++ [O.lst (x.map D.int)]))[(st.set p o3 ++ O.lst ((os.map DL.ordT).map rowsD) :: js).length]? = some (.lst (x.map D.int)) := fun o T x => by
        rw [← eS]
        have l : (st.set p o3 ++ O.lst ((os.map DL.ordT).map rowsD) :: js).length = (st.set p o ++ O.lst T :: js).length := by simp
        rw [l, List.getElem?_append_right (Nat.le_refl _), Nat.sub_self]
        rfl
      have oP2 : ∀ (o : O) (T : List D) (x y : List Int), (st.set p o ++ .lst T :: (js ++ [O.lst (x.map D.int)])).set (st.set p o3 ++ O.lst ((os.map DL.ordT).map rowsD) :: js).length (.lst (y.map D.int)) = st.set p o ++ .lst T :: (js ++ [O.lst (y.map D.int)]) := fun o T x y => by
        rw [← eS, ← eS]
        have l : (st.set p o3 ++ O.lst ((os.map DL.ordT).map rowsD) :: js).length = (st.set p o ++ O.lst T :: js).length := by simp
        rw [l, List.set_append_right _ _ (Nat.le_refl _), Nat.sub_self]
        rfl
      rw [eS]
      generalize hq : (st.set p o3 ++ O.lst ((os.map DL.ordT).map rowsD) :: js).length = qx at oQ oP2
      have fin : ∀ (o : O) (y : List Int), Ord c y → PotO kb o → ∀ x7 : Option D, LstD (st.set p o ++ .lst ((os.map DL.ordT).map rowsD) :: (js ++ [O.lst (y.map D.int)])) (.ref st.length) ∧ g_tabOfX [.ref qx] (st.set p o ++ .lst ((os.map DL.ordT).map rowsD) :: (js ++ [O.lst (y.map D.int)])) fun d st1 => mAppend (.ref st.length) [d] st1 fun x st1 => N [some (.ref p), some (.tup (P.map rowD)), some (.int (n : Nat)), some (.ref st.length), some (.int (i : Nat)), some (.lst (ts.map tr3)), some (.ref qx), x7, none, none, none, none] st1 := fun o y oy poy x7 => by
        refine ⟨by unfold LstD; simp only [own0], ?_⟩
        refine .inr ⟨qx, c, y, rfl, oQ _ _ _, oy, by omega, ?_⟩
        refine append_ref own0 (by rw [List.length_map, List.length_map]; omega) ?_
        rw [put0]
        refine hN _ _ (.inl ⟨i + 1, os ++ [y], o, js ++ [O.lst (y.map D.int)], _, _, _, _, el2, rfl, ?_, by rw [List.length_append, lo]; rfl, fun x hx => ?_, by omega, poy.less (by omega)⟩)
        · rw [List.map_append, List.map_append]
          rfl
        · rcases List.mem_append.mp hx with z | z
          · exact oo x z
          · rw [List.mem_singleton.mp z]; exact oy
      try dsimp only
      rw [e_seq]
      try simp only [e_var, e_C, e_op, e_neg, e_isN, e_notN, e_and, e_or, e_not, e_test, e_tAnd, e_tOr, e_tNot, e_tYes, e_if, e_aNil, e_aCons, e_tup, e_lst, e_lstN, e_len0, e_len1, e_len2, e_len3, e_len4, e_len5, e_cb, e_on1, e_on2, e_onI, e_onB, e_onO, e_onO0, e_onOO, e_I0, e_I, e_add, e_addT, e_addS, e_addL, e_addLR, e_addRL, e_addRR, e_mul, e_mulL, e_mulT, e_rev, e_revT, e_ix, e_eqI, e_eqS, e_eqB, e_neI, e_neS, e_neB, e_ltI, e_chain, e_len, e_abs, e_2I, e_tuple1, e_tuple2, e_tuple3, e_listT, e_listN, e_allR, e_seqT, e_seqK, e_seqL, e_isi, e_isB, e_notB, e_truth, e_next, e_drop, e_ret, e_retN, e_ifS, e_set, e_asg, e_par, e_nm, e_gsN, e_gsC, e_gTpK, e_gTpL, e_sum, e_maxL, e_minL, e_maxDef, e_int, e_intB, e_aug, e_on3, e_par3, e_newK, e_getK, e_keyI, e_keyS, e_inK, e_ninK, e_putK, e_lenK, e_lstS, e_seqX, e_gTpT, e_oN, e_oS, e_sl, e_slT, e_slL, e_finT, e_finN, e_index, e_idxT, e_idxL, e_mIx, e_ixST, e_ixSL, e_mtL, e_w, e_w1, e_w2, e_wE, e_wZ, e_itK, e_itT, e_itL, e_itT2, e_itL2, e_lc, e_for, e_wipe0, e_wipe, e_okI, e_okR, e_gSb, List.getElem?_cons_zero, List.getElem?_cons_succ, List.set_cons_zero, List.set_cons_succ, e_getD, e_get1, e_lockK, e_dlockK, e_wItemsK, e_wKeysK, e_getR, e_inR, e_ninR, e_dictP, e_sortTs, e_maxTs, e_pop, e_lenSetL, e_gSbK, seq_ref (oQ _ _ _), List.length_map]
      rw [lo3]
      refine take_ev (n := kb + 2) (pot_at lt (po3.less (by omega))) (by omega) (by omega) fun t o5 tc po5 => ?_
      rw [pot_app lt]
      try dsimp only
      rw [e_seq]
      try simp only [e_var, e_C, e_op, e_neg, e_isN, e_notN, e_and, e_or, e_not, e_test, e_tAnd, e_tOr, e_tNot, e_tYes, e_if, e_aNil, e_aCons, e_tup, e_lst, e_lstN, e_len0, e_len1, e_len2, e_len3, e_len4, e_len5, e_cb, e_on1, e_on2, e_onI, e_onB, e_onO, e_onO0, e_onOO, e_I0, e_I, e_add, e_addT, e_addS, e_addL, e_addLR, e_addRL, e_addRR, e_mul, e_mulL, e_mulT, e_rev, e_revT, e_ix, e_eqI, e_eqS, e_eqB, e_neI, e_neS, e_neB, e_ltI, e_chain, e_len, e_abs, e_2I, e_tuple1, e_tuple2, e_tuple3, e_listT, e_listN, e_allR, e_seqT, e_seqK, e_seqL, e_isi, e_isB, e_notB, e_truth, e_next, e_drop, e_ret, e_retN, e_ifS, e_set, e_asg, e_par, e_nm, e_gsN, e_gsC, e_gTpK, e_gTpL, e_sum, e_maxL, e_minL, e_maxDef, e_int, e_intB, e_aug, e_on3, e_par3, e_newK, e_getK, e_keyI, e_keyS, e_inK, e_ninK, e_putK, e_lenK, e_lstS, e_seqX, e_gTpT, e_oN, e_oS, e_sl, e_slT, e_slL, e_finT, e_finN, e_index, e_idxT, e_idxL, e_mIx, e_ixST, e_ixSL, e_mtL, e_w, e_w1, e_w2, e_wE, e_wZ, e_itK, e_itT, e_itL, e_itT2, e_itL2, e_lc, e_for, e_wipe0, e_wipe, e_okI, e_okR, e_gSb, List.getElem?_cons_zero, List.getElem?_cons_succ, List.set_cons_zero, List.set_cons_succ, e_getD, e_get1, e_lockK, e_dlockK, e_wItemsK, e_wKeysK, e_getR, e_inR, e_ninR, e_dictP, e_sortTs, e_maxTs, e_pop, e_lenSetL, e_gSbK]
      refine take_ev (n := kb + 1) (pot_at lt po5) (by decide) (by decide) fun t2 o6 t23 po6 => ?_
      rw [pot_app lt]
      try simp only [e_var, e_C, e_op, e_neg, e_isN, e_notN, e_and, e_or, e_not, e_test, e_tAnd, e_tOr, e_tNot, e_tYes, e_if, e_aNil, e_aCons, e_tup, e_lst, e_lstN, e_len0, e_len1, e_len2, e_len3, e_len4, e_len5, e_cb, e_on1, e_on2, e_onI, e_onB, e_onO, e_onO0, e_onOO, e_I0, e_I, e_add, e_addT, e_addS, e_addL, e_addLR, e_addRL, e_addRR, e_mul, e_mulL, e_mulT, e_rev, e_revT, e_ix, e_eqI, e_eqS, e_eqB, e_neI, e_neS, e_neB, e_ltI, e_chain, e_len, e_abs, e_2I, e_tuple1, e_tuple2, e_tuple3, e_listT, e_listN, e_allR, e_seqT, e_seqK, e_seqL, e_isi, e_isB, e_notB, e_truth, e_next, e_drop, e_ret, e_retN, e_ifS, e_set, e_asg, e_par, e_nm, e_gsN, e_gsC, e_gTpK, e_gTpL, e_sum, e_maxL, e_minL, e_maxDef, e_int, e_intB, e_aug, e_on3, e_par3, e_newK, e_getK, e_keyI, e_keyS, e_inK, e_ninK, e_putK, e_lenK, e_lstS, e_seqX, e_gTpT, e_oN, e_oS, e_sl, e_slT, e_slL, e_finT, e_finN, e_index, e_idxT, e_idxL, e_mIx, e_ixST, e_ixSL, e_mtL, e_w, e_w1, e_w2, e_wE, e_wZ, e_itK, e_itT, e_itL, e_itT2, e_itL2, e_lc, e_for, e_wipe0, e_wipe, e_okI, e_okR, e_gSb, List.getElem?_cons_zero, List.getElem?_cons_succ, List.set_cons_zero, List.set_cons_succ, e_getD, e_get1, e_lockK, e_dlockK, e_wItemsK, e_wKeysK, e_getR, e_inR, e_ninR, e_dictP, e_sortTs, e_maxTs, e_pop, e_lenSetL, e_gSbK]
      by_cases a : t2 = 0
      · rw [decide_eq_true (by omega), if_pos rfl]
        by_cases b : 0 < t
        · rw [decide_eq_true (by omega), if_pos rfl]
          have tl : t < ord.length := by omega
          have tl1 : t - 1 < ord.length := by omega
          have em : ((t : Int) - 1) = ((t - 1 : Nat) : Int) := by omega
          have a1 : atI (ord.map D.int) (t : Int) = some (.int ord[t]) := at_map (List.getElem?_eq_getElem tl)
          have a2 : atI (ord.map D.int) ((t - 1 : Nat) : Int) = some (.int ord[t - 1]) := at_map (List.getElem?_eq_getElem tl1)
          rw [em]
          try simp only [e_var, e_C, e_op, e_neg, e_isN, e_notN, e_and, e_or, e_not, e_test, e_tAnd, e_tOr, e_tNot, e_tYes, e_if, e_aNil, e_aCons, e_tup, e_lst, e_lstN, e_len0, e_len1, e_len2, e_len3, e_len4, e_len5, e_cb, e_on1, e_on2, e_onI, e_onB, e_onO, e_onO0, e_onOO, e_I0, e_I, e_add, e_addT, e_addS, e_addL, e_addLR, e_addRL, e_addRR, e_mul, e_mulL, e_mulT, e_rev, e_revT, e_ix, e_eqI, e_eqS, e_eqB, e_neI, e_neS, e_neB, e_ltI, e_chain, e_len, e_abs, e_2I, e_tuple1, e_tuple2, e_tuple3, e_listT, e_listN, e_allR, e_seqT, e_seqK, e_seqL, e_isi, e_isB, e_notB, e_truth, e_next, e_drop, e_ret, e_retN, e_ifS, e_set, e_asg, e_par, e_nm, e_gsN, e_gsC, e_gTpK, e_gTpL, e_sum, e_maxL, e_minL, e_maxDef, e_int, e_intB, e_aug, e_on3, e_par3, e_newK, e_getK, e_keyI, e_keyS, e_inK, e_ninK, e_putK, e_lenK, e_lstS, e_seqX, e_gTpT, e_oN, e_oS, e_sl, e_slT, e_slL, e_finT, e_finN, e_index, e_idxT, e_idxL, e_mIx, e_ixST, e_ixSL, e_mtL, e_w, e_w1, e_w2, e_wE, e_wZ, e_itK, e_itT, e_itL, e_itT2, e_itL2, e_lc, e_for, e_wipe0, e_wipe, e_okI, e_okR, e_gSb, List.getElem?_cons_zero, List.getElem?_cons_succ, List.set_cons_zero, List.set_cons_succ, e_getD, e_get1, e_lockK, e_dlockK, e_wItemsK, e_wKeysK, e_getR, e_inR, e_ninR, e_dictP, e_sortTs, e_maxTs, e_pop, e_lenSetL, e_gSbK, seq_ref (oQ _ _ _), a1, a2]
          refine ⟨rfl, ?_⟩
          rw [setS_ref (oQ _ _ _)]
          have ix1 : ixN (ord.map D.int).length ((t - 1 : Nat) : Int) = some (t - 1) := by rw [List.length_map]; exact ixN_lt tl1
          rw [ix1, e_onO]
          have m1 : (ord.map D.int).set (t - 1) (D.int ord[t]) = (ord.set (t - 1) ord[t]).map D.int := by rw [List.map_set]
          rw [m1, oP2, setS_ref (oQ _ _ _)]
          have ix2 : ixN ((ord.set (t - 1) ord[t]).map D.int).length ((t : Nat) : Int) = some t := by rw [List.length_map, List.length_set]; exact ixN_lt tl
          rw [ix2, e_onO]
          have m2 : ((ord.set (t - 1) ord[t]).map D.int).set t (D.int ord[t - 1]) = ((ord.set (t - 1) ord[t]).set t ord[t - 1]).map D.int := (List.map_set ..).symm
          rw [m2, oP2]
          exact fin o6 _ ⟨(List.set_set_perm tl1 tl).trans o3r.perm⟩ (po6.less (by omega)) _
        · rw [decide_eq_false (by omega), if_neg (by decide)]
          exact fin o6 ord o3r (po6.less (by omega)) _
      · rw [decide_eq_false (by omega), if_neg (by decide)]
        exact fin o6 ord o3r (po6.less (by omega)) _
  · rintro r st' ⟨i, os, o, js, x4, x5, x6, x7, el, rfl, rfl, lo, oo, li, po⟩
    have iN : i = n := by
      have := congrArg List.length el
      rw [List.length_drop, rgD_length] at this
      simp at this
      omega
    subst iN
    have own : (st.set p o ++ .lst ((os.map DL.ordT).map rowsD) :: js)[st.length]? = some (.lst ((os.map DL.ordT).map rowsD)) := own0
    try simp only [e_var, e_C, e_op, e_neg, e_isN, e_notN, e_and, e_or, e_not, e_test, e_tAnd, e_tOr, e_tNot, e_tYes, e_if, e_aNil, e_aCons, e_tup, e_lst, e_lstN, e_len0, e_len1, e_len2, e_len3, e_len4, e_len5, e_cb, e_on1, e_on2, e_onI, e_onB, e_onO, e_onO0, e_onOO, e_I0, e_I, e_add, e_addT, e_addS, e_addL, e_addLR, e_addRL, e_addRR, e_mul, e_mulL, e_mulT, e_rev, e_revT, e_ix, e_eqI, e_eqS, e_eqB, e_neI, e_neS, e_neB, e_ltI, e_chain, e_len, e_abs, e_2I, e_tuple1, e_tuple2, e_tuple3, e_listT, e_listN, e_allR, e_seqT, e_seqK, e_seqL, e_isi, e_isB, e_notB, e_truth, e_next, e_drop, e_ret, e_retN, e_ifS, e_set, e_asg, e_par, e_nm, e_gsN, e_gsC, e_gTpK, e_gTpL, e_sum, e_maxL, e_minL, e_maxDef, e_int, e_intB, e_aug, e_on3, e_par3, e_newK, e_getK, e_keyI, e_keyS, e_inK, e_ninK, e_putK, e_lenK, e_lstS, e_seqX, e_gTpT, e_oN, e_oS, e_sl, e_slT, e_slL, e_finT, e_finN, e_index, e_idxT, e_idxL, e_mIx, e_ixST, e_ixSL, e_mtL, e_w, e_w1, e_w2, e_wE, e_wZ, e_itK, e_itT, e_itL, e_itT2, e_itL2, e_lc, e_for, e_wipe0, e_wipe, e_okI, e_okR, e_gSb, List.getElem?_cons_zero, List.getElem?_cons_succ, List.set_cons_zero, List.set_cons_succ, e_getD, e_get1, e_lockK, e_dlockK, e_wItemsK, e_wKeysK, e_getR, e_inR, e_ninR, e_dictP, e_sortTs, e_maxTs, e_pop, e_lenSetL, e_gSbK, seq_ref own]
    exact rt_drop List.length_set (clo_tabs _ _) (cs_set po) (q os o lo oo (po.less (by omega)))
end DL
--ELX
namespace DL
open PySem PySem.Spec PyProof.Rows L2 LamX PySem.W SL
def g_evenX : DRs := fun ds st Q => ∃ (p k m n : Nat), ds = [.ref p, .int (m : Nat), .int (n : Nat)] ∧ Pot (k + 1000) p st ∧ 1 ≤ m ∧ m ≤ 16 ∧ 1 ≤ n ∧ n ≤ 16 ∧ ∀ (P os : List (List Int)) (o : O), P.length = m → (∀ x ∈ P, Ord n x) → os.length = n → (∀ x ∈ os, Ord m x) → PotO k o → Q (.tup [rowsD P, tabsD (os.map ordT)]) (st.set p o)
theorem ar_evenX (ds : List D) (st : DSt) (Q : DK) (h : g_evenX ds st Q) : ds.length = 3 := by
  obtain ⟨_, _, _, _, rfl, _⟩ := h
  rfl
set_option maxHeartbeats 4000000 in
theorem sem_evenX (ds : List D) (st : DSt) (Q : DK) (h : g_evenX ds st Q) : F__law_even_setting g_take g_mixed g_probe g_tabOfX g_lateX { nx := fun _ st' => Rt st Q .non st', rt := Rt st Q } (startD 6 ds) st := by
  obtain ⟨p, k, m, n, rfl, pot, m1, m16, n1, n16, q⟩ := h
  have lt := pot.lt
  have st6 : startD 6 [D.ref p, D.int (m : Nat), D.int (n : Nat)] = [some (.ref p), some (.int (m : Nat)), some (.int (n : Nat)), none, none, none] := rfl
  have big : (1000 : Nat) ≤ sizeLine := by decide
  obtain ⟨o0, eo0, po0⟩ := pot
  have s0 : st = st.set p o0 := (set_self eo0).symm
  simp only [F__law_even_setting, st6]
  try dsimp only
  rw [e_seq]
  try simp only [e_var, e_C, e_op, e_neg, e_isN, e_notN, e_and, e_or, e_not, e_test, e_tAnd, e_tOr, e_tNot, e_tYes, e_if, e_aNil, e_aCons, e_tup, e_lst, e_lstN, e_len0, e_len1, e_len2, e_len3, e_len4, e_len5, e_cb, e_on1, e_on2, e_onI, e_onB, e_onO, e_onO0, e_onOO, e_I0, e_I, e_add, e_addT, e_addS, e_addL, e_addLR, e_addRL, e_addRR, e_mul, e_mulL, e_mulT, e_rev, e_revT, e_ix, e_eqI, e_eqS, e_eqB, e_neI, e_neS, e_neB, e_ltI, e_chain, e_len, e_abs, e_2I, e_tuple1, e_tuple2, e_tuple3, e_listT, e_listN, e_allR, e_seqT, e_seqK, e_seqL, e_isi, e_isB, e_notB, e_truth, e_next, e_drop, e_ret, e_retN, e_ifS, e_set, e_asg, e_par, e_nm, e_gsN, e_gsC, e_gTpK, e_gTpL, e_sum, e_maxL, e_minL, e_maxDef, e_int, e_intB, e_aug, e_on3, e_par3, e_newK, e_getK, e_keyI, e_keyS, e_inK, e_ninK, e_putK, e_lenK, e_lstS, e_seqX, e_gTpT, e_oN, e_oS, e_sl, e_slT, e_slL, e_finT, e_finN, e_index, e_idxT, e_idxL, e_mIx, e_ixST, e_ixSL, e_mtL, e_w, e_w1, e_w2, e_wE, e_wZ, e_itK, e_itT, e_itL, e_itT2, e_itL2, e_lc, e_for, e_wipe0, e_wipe, e_okI, e_okR, e_gSb, List.getElem?_cons_zero, List.getElem?_cons_succ, List.set_cons_zero, List.set_cons_succ, e_getD, e_get1, e_lockK, e_dlockK, e_wItemsK, e_wKeysK, e_getR, e_inR, e_ninR, e_dictP, e_sortTs, e_maxTs, e_pop, e_lenSetL, e_gSbK, Int.toNat_natCast]
  refine ⟨⟨by omega, by omega⟩, by rw [rgD_length]; omega, ?_⟩
  refine compL_inv m (fun c acc st2 => ∃ (Ps : List (List Int)) (o : O), acc = Ps.map rowD ∧ Ps.length = c ∧ (∀ x ∈ Ps, Ord n x) ∧ st2 = st.set p o ∧ PotO (k + 700 + (m - c) * 18) o) (fun c d acc st2 Nx lc w hNx => ?_) ?_ _ [] 0 _ (by rw [rgD_length]; omega) ⟨[], o0, rfl, rfl, fun x hx => (by cases hx), s0, po0.less (by omega)⟩
  · obtain ⟨Ps, o, rfl, lPs, oPs, rfl, po⟩ := w
    try simp only [e_var, e_C, e_op, e_neg, e_isN, e_notN, e_and, e_or, e_not, e_test, e_tAnd, e_tOr, e_tNot, e_tYes, e_if, e_aNil, e_aCons, e_tup, e_lst, e_lstN, e_len0, e_len1, e_len2, e_len3, e_len4, e_len5, e_cb, e_on1, e_on2, e_onI, e_onB, e_onO, e_onO0, e_onOO, e_I0, e_I, e_add, e_addT, e_addS, e_addL, e_addLR, e_addRL, e_addRR, e_mul, e_mulL, e_mulT, e_rev, e_revT, e_ix, e_eqI, e_eqS, e_eqB, e_neI, e_neS, e_neB, e_ltI, e_chain, e_len, e_abs, e_2I, e_tuple1, e_tuple2, e_tuple3, e_listT, e_listN, e_allR, e_seqT, e_seqK, e_seqL, e_isi, e_isB, e_notB, e_truth, e_next, e_drop, e_ret, e_retN, e_ifS, e_set, e_asg, e_par, e_nm, e_gsN, e_gsC, e_gTpK, e_gTpL, e_sum, e_maxL, e_minL, e_maxDef, e_int, e_intB, e_aug, e_on3, e_par3, e_newK, e_getK, e_keyI, e_keyS, e_inK, e_ninK, e_putK, e_lenK, e_lstS, e_seqX, e_gTpT, e_oN, e_oS, e_sl, e_slT, e_slL, e_finT, e_finN, e_index, e_idxT, e_idxL, e_mIx, e_ixST, e_ixSL, e_mtL, e_w, e_w1, e_w2, e_wE, e_wZ, e_itK, e_itT, e_itL, e_itT2, e_itL2, e_lc, e_for, e_wipe0, e_wipe, e_okI, e_okR, e_gSb, List.getElem?_cons_zero, List.getElem?_cons_succ, List.set_cons_zero, List.set_cons_succ, e_getD, e_get1, e_lockK, e_dlockK, e_wItemsK, e_wKeysK, e_getR, e_inR, e_ninR, e_dictP, e_sortTs, e_maxTs, e_pop, e_lenSetL, e_gSbK]
    have ar : (m - c) * 18 = (m - (c + 1)) * 18 + 18 := by omega
    refine ⟨p, n, k + 700 + (m - (c + 1)) * 18, rfl, by omega, by omega, Pot.set lt (po.less (by omega)), fun ns o2 on po2 => ?_⟩
    rw [List.set_set]
    refine hNx _ _ ⟨Ps ++ [ns], o2, by rw [List.map_append]; rfl, by rw [List.length_append, lPs]; rfl, fun x hx => ?_, rfl, po2⟩
    rcases List.mem_append.mp hx with z | z
    · exact oPs x z
    · rw [List.mem_singleton.mp z]; exact on
  · rintro acc st2 ⟨P, o, rfl, lP, oP, rfl, po⟩
    try simp only [e_var, e_C, e_op, e_neg, e_isN, e_notN, e_and, e_or, e_not, e_test, e_tAnd, e_tOr, e_tNot, e_tYes, e_if, e_aNil, e_aCons, e_tup, e_lst, e_lstN, e_len0, e_len1, e_len2, e_len3, e_len4, e_len5, e_cb, e_on1, e_on2, e_onI, e_onB, e_onO, e_onO0, e_onOO, e_I0, e_I, e_add, e_addT, e_addS, e_addL, e_addLR, e_addRL, e_addRR, e_mul, e_mulL, e_mulT, e_rev, e_revT, e_ix, e_eqI, e_eqS, e_eqB, e_neI, e_neS, e_neB, e_ltI, e_chain, e_len, e_abs, e_2I, e_tuple1, e_tuple2, e_tuple3, e_listT, e_listN, e_allR, e_seqT, e_seqK, e_seqL, e_isi, e_isB, e_notB, e_truth, e_next, e_drop, e_ret, e_retN, e_ifS, e_set, e_asg, e_par, e_nm, e_gsN, e_gsC, e_gTpK, e_gTpL, e_sum, e_maxL, e_minL, e_maxDef, e_int, e_intB, e_aug, e_on3, e_par3, e_newK, e_getK, e_keyI, e_keyS, e_inK, e_ninK, e_putK, e_lenK, e_lstS, e_seqX, e_gTpT, e_oN, e_oS, e_sl, e_slT, e_slL, e_finT, e_finN, e_index, e_idxT, e_idxL, e_mIx, e_ixST, e_ixSL, e_mtL, e_w, e_w1, e_w2, e_wE, e_wZ, e_itK, e_itT, e_itL, e_itT2, e_itL2, e_lc, e_for, e_wipe0, e_wipe, e_okI, e_okR, e_gSb, List.getElem?_cons_zero, List.getElem?_cons_succ, List.set_cons_zero, List.set_cons_succ, e_getD, e_get1, e_lockK, e_dlockK, e_wItemsK, e_wKeysK, e_getR, e_inR, e_ninR, e_dictP, e_sortTs, e_maxTs, e_pop, e_lenSetL, e_gSbK]
    try dsimp only
    rw [e_seq]
    try simp only [e_var, e_C, e_op, e_neg, e_isN, e_notN, e_and, e_or, e_not, e_test, e_tAnd, e_tOr, e_tNot, e_tYes, e_if, e_aNil, e_aCons, e_tup, e_lst, e_lstN, e_len0, e_len1, e_len2, e_len3, e_len4, e_len5, e_cb, e_on1, e_on2, e_onI, e_onB, e_onO, e_onO0, e_onOO, e_I0, e_I, e_add, e_addT, e_addS, e_addL, e_addLR, e_addRL, e_addRR, e_mul, e_mulL, e_mulT, e_rev, e_revT, e_ix, e_eqI, e_eqS, e_eqB, e_neI, e_neS, e_neB, e_ltI, e_chain, e_len, e_abs, e_2I, e_tuple1, e_tuple2, e_tuple3, e_listT, e_listN, e_allR, e_seqT, e_seqK, e_seqL, e_isi, e_isB, e_notB, e_truth, e_next, e_drop, e_ret, e_retN, e_ifS, e_set, e_asg, e_par, e_nm, e_gsN, e_gsC, e_gTpK, e_gTpL, e_sum, e_maxL, e_minL, e_maxDef, e_int, e_intB, e_aug, e_on3, e_par3, e_newK, e_getK, e_keyI, e_keyS, e_inK, e_ninK, e_putK, e_lenK, e_lstS, e_seqX, e_gTpT, e_oN, e_oS, e_sl, e_slT, e_slL, e_finT, e_finN, e_index, e_idxT, e_idxL, e_mIx, e_ixST, e_ixSL, e_mtL, e_w, e_w1, e_w2, e_wE, e_wZ, e_itK, e_itT, e_itL, e_itT2, e_itL2, e_lc, e_for, e_wipe0, e_wipe, e_okI, e_okR, e_gSb, List.getElem?_cons_zero, List.getElem?_cons_succ, List.set_cons_zero, List.set_cons_succ, e_getD, e_get1, e_lockK, e_dlockK, e_wItemsK, e_wKeysK, e_getR, e_inR, e_ninR, e_dictP, e_sortTs, e_maxTs, e_pop, e_lenSetL, e_gSbK]
    refine take_ev (n := k + 699) (Pot.set lt (po.less (by omega))) (by decide) (by decide) fun t o2 t2 po2 => ?_
    rw [List.set_set]
    try simp only [e_var, e_C, e_op, e_neg, e_isN, e_notN, e_and, e_or, e_not, e_test, e_tAnd, e_tOr, e_tNot, e_tYes, e_if, e_aNil, e_aCons, e_tup, e_lst, e_lstN, e_len0, e_len1, e_len2, e_len3, e_len4, e_len5, e_cb, e_on1, e_on2, e_onI, e_onB, e_onO, e_onO0, e_onOO, e_I0, e_I, e_add, e_addT, e_addS, e_addL, e_addLR, e_addRL, e_addRR, e_mul, e_mulL, e_mulT, e_rev, e_revT, e_ix, e_eqI, e_eqS, e_eqB, e_neI, e_neS, e_neB, e_ltI, e_chain, e_len, e_abs, e_2I, e_tuple1, e_tuple2, e_tuple3, e_listT, e_listN, e_allR, e_seqT, e_seqK, e_seqL, e_isi, e_isB, e_notB, e_truth, e_next, e_drop, e_ret, e_retN, e_ifS, e_set, e_asg, e_par, e_nm, e_gsN, e_gsC, e_gTpK, e_gTpL, e_sum, e_maxL, e_minL, e_maxDef, e_int, e_intB, e_aug, e_on3, e_par3, e_newK, e_getK, e_keyI, e_keyS, e_inK, e_ninK, e_putK, e_lenK, e_lstS, e_seqX, e_gTpT, e_oN, e_oS, e_sl, e_slT, e_slL, e_finT, e_finN, e_index, e_idxT, e_idxL, e_mIx, e_ixST, e_ixSL, e_mtL, e_w, e_w1, e_w2, e_wE, e_wZ, e_itK, e_itT, e_itL, e_itT2, e_itL2, e_lc, e_for, e_wipe0, e_wipe, e_okI, e_okR, e_gSb, List.getElem?_cons_zero, List.getElem?_cons_succ, List.set_cons_zero, List.set_cons_succ, e_getD, e_get1, e_lockK, e_dlockK, e_wItemsK, e_wKeysK, e_getR, e_inR, e_ninR, e_dictP, e_sortTs, e_maxTs, e_pop, e_lenSetL, e_gSbK]
    by_cases a : t = 0
    · rw [decide_eq_true (by omega), if_pos rfl]
      try simp only [e_var, e_C, e_op, e_neg, e_isN, e_notN, e_and, e_or, e_not, e_test, e_tAnd, e_tOr, e_tNot, e_tYes, e_if, e_aNil, e_aCons, e_tup, e_lst, e_lstN, e_len0, e_len1, e_len2, e_len3, e_len4, e_len5, e_cb, e_on1, e_on2, e_onI, e_onB, e_onO, e_onO0, e_onOO, e_I0, e_I, e_add, e_addT, e_addS, e_addL, e_addLR, e_addRL, e_addRR, e_mul, e_mulL, e_mulT, e_rev, e_revT, e_ix, e_eqI, e_eqS, e_eqB, e_neI, e_neS, e_neB, e_ltI, e_chain, e_len, e_abs, e_2I, e_tuple1, e_tuple2, e_tuple3, e_listT, e_listN, e_allR, e_seqT, e_seqK, e_seqL, e_isi, e_isB, e_notB, e_truth, e_next, e_drop, e_ret, e_retN, e_ifS, e_set, e_asg, e_par, e_nm, e_gsN, e_gsC, e_gTpK, e_gTpL, e_sum, e_maxL, e_minL, e_maxDef, e_int, e_intB, e_aug, e_on3, e_par3, e_newK, e_getK, e_keyI, e_keyS, e_inK, e_ninK, e_putK, e_lenK, e_lstS, e_seqX, e_gTpT, e_oN, e_oS, e_sl, e_slT, e_slL, e_finT, e_finN, e_index, e_idxT, e_idxL, e_mIx, e_ixST, e_ixSL, e_mtL, e_w, e_w1, e_w2, e_wE, e_wZ, e_itK, e_itT, e_itL, e_itT2, e_itL2, e_lc, e_for, e_wipe0, e_wipe, e_okI, e_okR, e_gSb, List.getElem?_cons_zero, List.getElem?_cons_succ, List.set_cons_zero, List.set_cons_succ, e_getD, e_get1, e_lockK, e_dlockK, e_wItemsK, e_wKeysK, e_getR, e_inR, e_ninR, e_dictP, e_sortTs, e_maxTs, e_pop, e_lenSetL, e_gSbK]
      refine ⟨p, k, m, n, P, rfl, Pot.set lt (po2.less (by omega)), lP, m1, m16, n1, n16, oP, fun os o3 lo oo po3 => ?_⟩
      rw [List.set_set]
      exact .inl (q P os o3 lP oP lo oo po3)
    · rw [decide_eq_false (by omega), if_neg (by decide)]
      try simp only [e_var, e_C, e_op, e_neg, e_isN, e_notN, e_and, e_or, e_not, e_test, e_tAnd, e_tOr, e_tNot, e_tYes, e_if, e_aNil, e_aCons, e_tup, e_lst, e_lstN, e_len0, e_len1, e_len2, e_len3, e_len4, e_len5, e_cb, e_on1, e_on2, e_onI, e_onB, e_onO, e_onO0, e_onOO, e_I0, e_I, e_add, e_addT, e_addS, e_addL, e_addLR, e_addRL, e_addRR, e_mul, e_mulL, e_mulT, e_rev, e_revT, e_ix, e_eqI, e_eqS, e_eqB, e_neI, e_neS, e_neB, e_ltI, e_chain, e_len, e_abs, e_2I, e_tuple1, e_tuple2, e_tuple3, e_listT, e_listN, e_allR, e_seqT, e_seqK, e_seqL, e_isi, e_isB, e_notB, e_truth, e_next, e_drop, e_ret, e_retN, e_ifS, e_set, e_asg, e_par, e_nm, e_gsN, e_gsC, e_gTpK, e_gTpL, e_sum, e_maxL, e_minL, e_maxDef, e_int, e_intB, e_aug, e_on3, e_par3, e_newK, e_getK, e_keyI, e_keyS, e_inK, e_ninK, e_putK, e_lenK, e_lstS, e_seqX, e_gTpT, e_oN, e_oS, e_sl, e_slT, e_slL, e_finT, e_finN, e_index, e_idxT, e_idxL, e_mIx, e_ixST, e_ixSL, e_mtL, e_w, e_w1, e_w2, e_wE, e_wZ, e_itK, e_itT, e_itL, e_itT2, e_itL2, e_lc, e_for, e_wipe0, e_wipe, e_okI, e_okR, e_gSb, List.getElem?_cons_zero, List.getElem?_cons_succ, List.set_cons_zero, List.set_cons_succ, e_getD, e_get1, e_lockK, e_dlockK, e_wItemsK, e_wKeysK, e_getR, e_inR, e_ninR, e_dictP, e_sortTs, e_maxTs, e_pop, e_lenSetL, e_gSbK, Int.toNat_natCast]
      refine ⟨⟨by omega, by omega⟩, by rw [rgD_length]; omega, ?_⟩
      refine compL_inv n (fun c acc st2 => ∃ (os : List (List Int)) (o : O), acc = (os.map DL.ordT).map rowsD ∧ os.length = c ∧ (∀ x ∈ os, Ord m x) ∧ st2 = st.set p o ∧ PotO (k + (n - c) * 16) o) (fun c d acc st2 Nx lc w hNx => ?_) ?_ _ [] 0 _ (by rw [rgD_length]; omega) ⟨[], o2, rfl, rfl, fun x hx => (by cases hx), rfl, po2.less (by omega)⟩
      · obtain ⟨os, o, rfl, lo, oo, rfl, po⟩ := w
        have ar : (n - c) * 16 = (n - (c + 1)) * 16 + 16 := by omega
        try simp only [e_var, e_C, e_op, e_neg, e_isN, e_notN, e_and, e_or, e_not, e_test, e_tAnd, e_tOr, e_tNot, e_tYes, e_if, e_aNil, e_aCons, e_tup, e_lst, e_lstN, e_len0, e_len1, e_len2, e_len3, e_len4, e_len5, e_cb, e_on1, e_on2, e_onI, e_onB, e_onO, e_onO0, e_onOO, e_I0, e_I, e_add, e_addT, e_addS, e_addL, e_addLR, e_addRL, e_addRR, e_mul, e_mulL, e_mulT, e_rev, e_revT, e_ix, e_eqI, e_eqS, e_eqB, e_neI, e_neS, e_neB, e_ltI, e_chain, e_len, e_abs, e_2I, e_tuple1, e_tuple2, e_tuple3, e_listT, e_listN, e_allR, e_seqT, e_seqK, e_seqL, e_isi, e_isB, e_notB, e_truth, e_next, e_drop, e_ret, e_retN, e_ifS, e_set, e_asg, e_par, e_nm, e_gsN, e_gsC, e_gTpK, e_gTpL, e_sum, e_maxL, e_minL, e_maxDef, e_int, e_intB, e_aug, e_on3, e_par3, e_newK, e_getK, e_keyI, e_keyS, e_inK, e_ninK, e_putK, e_lenK, e_lstS, e_seqX, e_gTpT, e_oN, e_oS, e_sl, e_slT, e_slL, e_finT, e_finN, e_index, e_idxT, e_idxL, e_mIx, e_ixST, e_ixSL, e_mtL, e_w, e_w1, e_w2, e_wE, e_wZ, e_itK, e_itT, e_itL, e_itT2, e_itL2, e_lc, e_for, e_wipe0, e_wipe, e_okI, e_okR, e_gSb, List.getElem?_cons_zero, List.getElem?_cons_succ, List.set_cons_zero, List.set_cons_succ, e_getD, e_get1, e_lockK, e_dlockK, e_wItemsK, e_wKeysK, e_getR, e_inR, e_ninR, e_dictP, e_sortTs, e_maxTs, e_pop, e_lenSetL, e_gSbK]
        unfold dLRg1
        try simp only [e_var, e_C, e_op, e_neg, e_isN, e_notN, e_and, e_or, e_not, e_test, e_tAnd, e_tOr, e_tNot, e_tYes, e_if, e_aNil, e_aCons, e_tup, e_lst, e_lstN, e_len0, e_len1, e_len2, e_len3, e_len4, e_len5, e_cb, e_on1, e_on2, e_onI, e_onB, e_onO, e_onO0, e_onOO, e_I0, e_I, e_add, e_addT, e_addS, e_addL, e_addLR, e_addRL, e_addRR, e_mul, e_mulL, e_mulT, e_rev, e_revT, e_ix, e_eqI, e_eqS, e_eqB, e_neI, e_neS, e_neB, e_ltI, e_chain, e_len, e_abs, e_2I, e_tuple1, e_tuple2, e_tuple3, e_listT, e_listN, e_allR, e_seqT, e_seqK, e_seqL, e_isi, e_isB, e_notB, e_truth, e_next, e_drop, e_ret, e_retN, e_ifS, e_set, e_asg, e_par, e_nm, e_gsN, e_gsC, e_gTpK, e_gTpL, e_sum, e_maxL, e_minL, e_maxDef, e_int, e_intB, e_aug, e_on3, e_par3, e_newK, e_getK, e_keyI, e_keyS, e_inK, e_ninK, e_putK, e_lenK, e_lstS, e_seqX, e_gTpT, e_oN, e_oS, e_sl, e_slT, e_slL, e_finT, e_finN, e_index, e_idxT, e_idxL, e_mIx, e_ixST, e_ixSL, e_mtL, e_w, e_w1, e_w2, e_wE, e_wZ, e_itK, e_itT, e_itL, e_itT2, e_itL2, e_lc, e_for, e_wipe0, e_wipe, e_okI, e_okR, e_gSb, List.getElem?_cons_zero, List.getElem?_cons_succ, List.set_cons_zero, List.set_cons_succ, e_getD, e_get1, e_lockK, e_dlockK, e_wItemsK, e_wKeysK, e_getR, e_inR, e_ninR, e_dictP, e_sortTs, e_maxTs, e_pop, e_lenSetL, e_gSbK]
        refine ⟨RgOk.of_le (by decide) (by omega) (by decide) (by omega), p, _, rgD 0 m, k + (n - (c + 1)) * 16, rfl, rfl, (fun z => by cases z), by rw [rgD_length]; omega, fun d hd => ?_, by
          rw [rgD_length]
          exact Pot.set lt (po.less (by omega)), fun ys o1 pm po1 => ?_⟩
        · obtain ⟨i, li, rfl⟩ := rgD_mem hd
          exact (sm_int (by omega) (by omega)).mono (by decide) (by decide)
        obtain ⟨ord, rfl, oo1⟩ := mixed_ord pm
        rw [List.set_set]
        refine .inl ⟨m, ord, rfl, oo1, by omega, ?_⟩
        refine hNx _ _ ⟨os ++ [ord], o1, by rw [List.map_append, List.map_append]; rfl, by rw [List.length_append, lo]; rfl, fun x hx => ?_, rfl, po1⟩
        rcases List.mem_append.mp hx with z | z
        · exact oo x z
        · rw [List.mem_singleton.mp z]; exact oo1
      · rintro acc st2 ⟨os, o, rfl, lo, oo, rfl, po⟩
        try simp only [e_var, e_C, e_op, e_neg, e_isN, e_notN, e_and, e_or, e_not, e_test, e_tAnd, e_tOr, e_tNot, e_tYes, e_if, e_aNil, e_aCons, e_tup, e_lst, e_lstN, e_len0, e_len1, e_len2, e_len3, e_len4, e_len5, e_cb, e_on1, e_on2, e_onI, e_onB, e_onO, e_onO0, e_onOO, e_I0, e_I, e_add, e_addT, e_addS, e_addL, e_addLR, e_addRL, e_addRR, e_mul, e_mulL, e_mulT, e_rev, e_revT, e_ix, e_eqI, e_eqS, e_eqB, e_neI, e_neS, e_neB, e_ltI, e_chain, e_len, e_abs, e_2I, e_tuple1, e_tuple2, e_tuple3, e_listT, e_listN, e_allR, e_seqT, e_seqK, e_seqL, e_isi, e_isB, e_notB, e_truth, e_next, e_drop, e_ret, e_retN, e_ifS, e_set, e_asg, e_par, e_nm, e_gsN, e_gsC, e_gTpK, e_gTpL, e_sum, e_maxL, e_minL, e_maxDef, e_int, e_intB, e_aug, e_on3, e_par3, e_newK, e_getK, e_keyI, e_keyS, e_inK, e_ninK, e_putK, e_lenK, e_lstS, e_seqX, e_gTpT, e_oN, e_oS, e_sl, e_slT, e_slL, e_finT, e_finN, e_index, e_idxT, e_idxL, e_mIx, e_ixST, e_ixSL, e_mtL, e_w, e_w1, e_w2, e_wE, e_wZ, e_itK, e_itT, e_itL, e_itT2, e_itL2, e_lc, e_for, e_wipe0, e_wipe, e_okI, e_okR, e_gSb, List.getElem?_cons_zero, List.getElem?_cons_succ, List.set_cons_zero, List.set_cons_succ, e_getD, e_get1, e_lockK, e_dlockK, e_wItemsK, e_wKeysK, e_getR, e_inR, e_ninR, e_dictP, e_sortTs, e_maxTs, e_pop, e_lenSetL, e_gSbK]
        exact .inl (q P os o lP oP lo oo (po.less (by omega)))
end DL
--ELX
namespace DL
open PySem PySem.Spec PyProof.Rows L2 LamX PySem.W SL
end DL
--ELX
namespace DL
open PySem PySem.Spec PyProof.Rows L2 LamX PySem.W SL
theorem ne_row {st : DSt} {xs : List Int} {k c : Nat} {Q : DK} (sm : Sm k c (rowD xs)) (hk : k ≤ 50) (q : Q (.bl false) st) : dEqG true (rowD xs) (rowD xs) st Q := by
  obtain ⟨p, e1, el⟩ := sm
  have p1 : pdS st (rowD xs) = some p := by rw [← e1]; rfl
  show dEqD true (rowD xs) (rowD xs) st Q
  unfold dEqD
  rw [p1, e_onO, e_onO]
  refine ⟨⟨Sm.shaped el hk, Sm.shaped el hk⟩, ?_⟩
  rw [pdT_eqv e1]
  exact q
end DL
namespace DL
open PySem PySem.Spec PyProof.Rows L2 LamX PySem.W SL
theorem sem_law69 (ds : List D) (st : DSt) (Q : DK) (h : g_law ds st Q) : F_law_v9 g_pot g_right { nx := fun _ st' => Rt st Q .non st', rt := Rt st Q } (startD 2 ds) st := by
  have z := sem_law83 ds st Q h
  unfold F_law_v7 at z
  unfold F_law_v9
  exact z
end DL
--ELX
namespace DL
open PySem PySem.Spec PyProof.Rows L2 LamX PySem.W SL
set_option maxHeartbeats 8000000 in
theorem sem_right68 (ds : List D) (st : DSt) (Q : DK) (h : g_right ds st Q) : F__law_right_v37 g_layout g_look g_take g_mixed g_evenX g_fewX g_laidX g_asRow g_absentX { nx := fun _ st' => Rt st Q .non st', rt := Rt st Q } (startD 12 ds) st := by
  obtain ⟨p, rfl, pot, q⟩ := h
  have lt := pot.lt
  have st12 : startD 12 [D.ref p] = [some (.ref p), none, none, none, none, none, none, none, none, none, none, none] := rfl
  have big : (1000 : Nat) ≤ sizeLine := by decide
  obtain ⟨o0, eo0, po0⟩ := pot
  have s0 : st = st.set p o0 := (set_self eo0).symm
  simp only [F__law_right_v37, st12]
  try dsimp only
  rw [e_seq]
  try simp only [e_var, e_C, e_op, e_neg, e_isN, e_notN, e_and, e_or, e_not, e_test, e_tAnd, e_tOr, e_tNot, e_tYes, e_if, e_aNil, e_aCons, e_tup, e_lst, e_lstN, e_len0, e_len1, e_len2, e_len3, e_len4, e_len5, e_cb, e_on1, e_on2, e_onI, e_onB, e_onO, e_onO0, e_onOO, e_I0, e_I, e_add, e_addT, e_addS, e_addL, e_addLR, e_addRL, e_addRR, e_mul, e_mulL, e_mulT, e_rev, e_revT, e_ix, e_eqI, e_eqS, e_eqB, e_neI, e_neS, e_neB, e_ltI, e_chain, e_len, e_abs, e_2I, e_tuple1, e_tuple2, e_tuple3, e_listT, e_listN, e_allR, e_seqT, e_seqK, e_seqL, e_isi, e_isB, e_notB, e_truth, e_next, e_drop, e_ret, e_retN, e_ifS, e_set, e_asg, e_par, e_nm, e_gsN, e_gsC, e_gTpK, e_gTpL, e_sum, e_maxL, e_minL, e_maxDef, e_int, e_intB, e_aug, e_on3, e_par3, e_newK, e_getK, e_keyI, e_keyS, e_inK, e_ninK, e_putK, e_lenK, e_lstS, e_seqX, e_gTpT, e_oN, e_oS, e_sl, e_slT, e_slL, e_finT, e_finN, e_index, e_idxT, e_idxL, e_mIx, e_ixST, e_ixSL, e_mtL, e_w, e_w1, e_w2, e_wE, e_wZ, e_itK, e_itT, e_itL, e_itT2, e_itL2, e_lc, e_for, e_wipe0, e_wipe, e_okI, e_okR, e_gSb, List.getElem?_cons_zero, List.getElem?_cons_succ, List.set_cons_zero, List.set_cons_succ, e_getD, e_get1, e_lockK, e_dlockK, e_wItemsK, e_wKeysK, e_getR, e_inR, e_ninR, e_dictP, e_sortTs, e_maxTs, e_pop, e_lenSetL, e_gSbK]
  refine ⟨by decide, ?_⟩
  refine for_inv (fun left r st' => ∃ (o : O) (js : DSt) (x1 x2 x3 x4 x5 x6 x7 x8 x9 x10 x11 : Option D), r = [some (.ref p), x1, x2, x3, x4, x5, x6, x7, x8, x9, x10, x11] ∧ st' = st.set p o ++ js ∧ PotO (left.length * 5000) o) ?_ ?_ _ _ _ ⟨o0, [], _, _, _, _, _, _, _, _, _, _, _, rfl, by rw [List.append_nil]; exact s0, po0.less (by decide)⟩
  · rintro d left r st' N hN ⟨o, js, x1, x2, x3, x4, x5, x6, x7, x8, x9, x10, x11, rfl, rfl, po⟩
    rw [List.length_cons] at po
    have e5 : (left.length + 1) * 5000 = left.length * 5000 + 5000 := by omega
    rw [e5] at po
    generalize left.length * 5000 = kb at hN po
    try simp only [e_var, e_C, e_op, e_neg, e_isN, e_notN, e_and, e_or, e_not, e_test, e_tAnd, e_tOr, e_tNot, e_tYes, e_if, e_aNil, e_aCons, e_tup, e_lst, e_lstN, e_len0, e_len1, e_len2, e_len3, e_len4, e_len5, e_cb, e_on1, e_on2, e_onI, e_onB, e_onO, e_onO0, e_onOO, e_I0, e_I, e_add, e_addT, e_addS, e_addL, e_addLR, e_addRL, e_addRR, e_mul, e_mulL, e_mulT, e_rev, e_revT, e_ix, e_eqI, e_eqS, e_eqB, e_neI, e_neS, e_neB, e_ltI, e_chain, e_len, e_abs, e_2I, e_tuple1, e_tuple2, e_tuple3, e_listT, e_listN, e_allR, e_seqT, e_seqK, e_seqL, e_isi, e_isB, e_notB, e_truth, e_next, e_drop, e_ret, e_retN, e_ifS, e_set, e_asg, e_par, e_nm, e_gsN, e_gsC, e_gTpK, e_gTpL, e_sum, e_maxL, e_minL, e_maxDef, e_int, e_intB, e_aug, e_on3, e_par3, e_newK, e_getK, e_keyI, e_keyS, e_inK, e_ninK, e_putK, e_lenK, e_lstS, e_seqX, e_gTpT, e_oN, e_oS, e_sl, e_slT, e_slL, e_finT, e_finN, e_index, e_idxT, e_idxL, e_mIx, e_ixST, e_ixSL, e_mtL, e_w, e_w1, e_w2, e_wE, e_wZ, e_itK, e_itT, e_itL, e_itT2, e_itL2, e_lc, e_for, e_wipe0, e_wipe, e_okI, e_okR, e_gSb, List.getElem?_cons_zero, List.getElem?_cons_succ, List.set_cons_zero, List.set_cons_succ, e_getD, e_get1, e_lockK, e_dlockK, e_wItemsK, e_wKeysK, e_getR, e_inR, e_ninR, e_dictP, e_sortTs, e_maxTs, e_pop, e_lenSetL, e_gSbK]
    rw [e_seq, e_par]
    simp only [e_aCons, e_op, e_C, e_cb, e_aNil, e_var, List.getElem?_cons_zero, List.getElem?_cons_succ, e_onOO]
    refine take_ev (n := kb + 4999) (pot_at lt (po.less (by omega))) (by decide) (by decide) fun t1 o1 lt1 po1 => ?_
    rw [pot_app lt]
    simp only [e_add]
    refine take_ev (n := kb + 4998) (pot_at lt po1) (by decide) (by decide) fun t2 o2 lt2 po2 => ?_
    rw [pot_app lt]
    simp only [e_add]
    obtain ⟨m, em, m1, m10⟩ : ∃ m : Nat, (1 : Int) + (t1 : Nat) = (m : Int) ∧ 1 ≤ m ∧ m ≤ 10 := ⟨t1 + 1, by omega, by omega, by omega⟩
    obtain ⟨n, en, n1, n12⟩ : ∃ n : Nat, (1 : Int) + (t2 : Nat) = (n : Int) ∧ 1 ≤ n ∧ n ≤ 12 := ⟨t2 + 1, by omega, by omega, by omega⟩
    rw [em, en]
    change on2 [D.int (m : Nat), D.int (n : Nat)] _
    rw [e_on2]
    try simp only [e_var, e_C, e_op, e_neg, e_isN, e_notN, e_and, e_or, e_not, e_test, e_tAnd, e_tOr, e_tNot, e_tYes, e_if, e_aNil, e_aCons, e_tup, e_lst, e_lstN, e_len0, e_len1, e_len2, e_len3, e_len4, e_len5, e_cb, e_on1, e_on2, e_onI, e_onB, e_onO, e_onO0, e_onOO, e_I0, e_I, e_add, e_addT, e_addS, e_addL, e_addLR, e_addRL, e_addRR, e_mul, e_mulL, e_mulT, e_rev, e_revT, e_ix, e_eqI, e_eqS, e_eqB, e_neI, e_neS, e_neB, e_ltI, e_chain, e_len, e_abs, e_2I, e_tuple1, e_tuple2, e_tuple3, e_listT, e_listN, e_allR, e_seqT, e_seqK, e_seqL, e_isi, e_isB, e_notB, e_truth, e_next, e_drop, e_ret, e_retN, e_ifS, e_set, e_asg, e_par, e_nm, e_gsN, e_gsC, e_gTpK, e_gTpL, e_sum, e_maxL, e_minL, e_maxDef, e_int, e_intB, e_aug, e_on3, e_par3, e_newK, e_getK, e_keyI, e_keyS, e_inK, e_ninK, e_putK, e_lenK, e_lstS, e_seqX, e_gTpT, e_oN, e_oS, e_sl, e_slT, e_slL, e_finT, e_finN, e_index, e_idxT, e_idxL, e_mIx, e_ixST, e_ixSL, e_mtL, e_w, e_w1, e_w2, e_wE, e_wZ, e_itK, e_itT, e_itL, e_itT2, e_itL2, e_lc, e_for, e_wipe0, e_wipe, e_okI, e_okR, e_gSb, List.getElem?_cons_zero, List.getElem?_cons_succ, List.set_cons_zero, List.set_cons_succ, e_getD, e_get1, e_lockK, e_dlockK, e_wItemsK, e_wKeysK, e_getR, e_inR, e_ninR, e_dictP, e_sortTs, e_maxTs, e_pop, e_lenSetL, e_gSbK]
    refine ⟨p, kb + 3900, m, n, rfl, pot_at lt (po2.less (by omega)), m1, by omega, n1, by omega, fun P os o3 lP oP lo oo po3 => ?_⟩
    rw [pot_app lt]
    have S : Setg m n P (os.map DL.ordT) := ⟨lP, oP, by rw [List.length_map]; exact lo, fun t ht => by obtain ⟨y, hy, rfl⟩ := List.mem_map.mp ht; exact (oo y hy).tb⟩
    have all : ∀ t ∈ os.map DL.ordT, noRing t = true := fun t ht => by obtain ⟨y, hy, rfl⟩ := List.mem_map.mp ht; exact ordT_noRing (oo y hy)
    generalize os.map DL.ordT = R at S all
    have T := Setg.trn S all
    have main : ∀ (h : List Nat) (o : O), Hist m n h → PotO (kb + 100) o → ∀ x7 x8 x9 x10 x11 : Option D, (sSeq (sSet 7 (dCB g_layout (daCons (dVar 4) (daCons (dVar 5) (daCons (dCB dTuple (daCons (dCB g_mixed (daCons (dVar 0) (daCons (dVar 6) daNil))) daNil)) daNil))))) (sSeq (sSet 8 (dCB g_laidX (daCons (dVar 4) (daCons (dVar 5) (daCons (dVar 6) daNil))))) (sSeq (sIf (dTest (dOp dNe (dVar 7) (dCB g_asRow (daCons (dVar 8) (daCons (dVar 3) daNil))))) (sRet (dC (.bl false))) sNext) (sSeq (sLockK 8 (sFor (wKeysK (dVar 8)) (gNm 9) (sSeq (sSet 10 (dOp dGetR (dVar 8) (dVar 9))) (sIf (dTest (dOp dNe (dCB dRepr (daCons (dCB g_look (daCons (dVar 4) (daCons (dVar 5) (daCons (dVar 7) (daCons (dVar 10) daNil))))) daNil)) (dCB dRepr (daCons (dTup (daCons (dVar 9) (daCons (dOp dAdd (dIndex (dOp dIx (dVar 4) (dVar 10)) (daCons (dVar 9) daNil)) (dC (.int 1))) daNil))) daNil)))) (sRet (dC (.bl false))) sNext)))) (sSeq (sSet 11 (dLcG (wRng1 (daCons (dVar 2) daNil)) (gNm 10) (dTest (dOp dNotIn (dVar 10) (dVar 6))) (dVar 10) [10] finT)) (sSeq (sIf (dtNot (dTest (dCB dAll (daCons (dLcG (wSeq (dVar 11)) (gNm 10) dtYes (dCB g_absentX (daCons (dVar 4) (daCons (dVar 5) (daCons (dVar 7) (daCons (dVar 8) (daCons (dVar 10) daNil)))))) [10] finT) daNil)))) (sRet (dC (.bl false))) sNext) (sIf (dTest (dOp dNe (dVar 7) (dCB g_asRow (daCons (dVar 8) (daCons (dVar 3) daNil))))) (sRet (dC (.bl false))) sNext))))))) { nx := N, rt := Rt st Q, bk := sRet (dC (.bl true)) { nx := fun x st' => Rt st Q D.non st', rt := Rt st Q }, ct := N } [some (.ref p), some d, some (.int (m : Nat)), some (.int (n : Nat)), some (.tup (P.map rowD)), some (.tup (R.map rowsD)), some (histD h), x7, x8, x9, x10, x11] (st.set p o ++ js) := fun h o H po x7 x8 x9 x10 x11 => by
      have few := H.few
      try dsimp only
      rw [e_seq]
      try simp only [e_var, e_C, e_op, e_neg, e_isN, e_notN, e_and, e_or, e_not, e_test, e_tAnd, e_tOr, e_tNot, e_tYes, e_if, e_aNil, e_aCons, e_tup, e_lst, e_lstN, e_len0, e_len1, e_len2, e_len3, e_len4, e_len5, e_cb, e_on1, e_on2, e_onI, e_onB, e_onO, e_onO0, e_onOO, e_I0, e_I, e_add, e_addT, e_addS, e_addL, e_addLR, e_addRL, e_addRR, e_mul, e_mulL, e_mulT, e_rev, e_revT, e_ix, e_eqI, e_eqS, e_eqB, e_neI, e_neS, e_neB, e_ltI, e_chain, e_len, e_abs, e_2I, e_tuple1, e_tuple2, e_tuple3, e_listT, e_listN, e_allR, e_seqT, e_seqK, e_seqL, e_isi, e_isB, e_notB, e_truth, e_next, e_drop, e_ret, e_retN, e_ifS, e_set, e_asg, e_par, e_nm, e_gsN, e_gsC, e_gTpK, e_gTpL, e_sum, e_maxL, e_minL, e_maxDef, e_int, e_intB, e_aug, e_on3, e_par3, e_newK, e_getK, e_keyI, e_keyS, e_inK, e_ninK, e_putK, e_lenK, e_lstS, e_seqX, e_gTpT, e_oN, e_oS, e_sl, e_slT, e_slL, e_finT, e_finN, e_index, e_idxT, e_idxL, e_mIx, e_ixST, e_ixSL, e_mtL, e_w, e_w1, e_w2, e_wE, e_wZ, e_itK, e_itT, e_itL, e_itT2, e_itL2, e_lc, e_for, e_wipe0, e_wipe, e_okI, e_okR, e_gSb, List.getElem?_cons_zero, List.getElem?_cons_succ, List.set_cons_zero, List.set_cons_succ, e_getD, e_get1, e_lockK, e_dlockK, e_wItemsK, e_wKeysK, e_getR, e_inR, e_ninR, e_dictP, e_sortTs, e_maxTs, e_pop, e_lenSetL, e_gSbK]
      refine ⟨p, histD h, nL h, kb + 80, rfl, rfl, (fun z => by cases z), by unfold nL; rw [List.length_map]; omega, fun d hd => ?_, pot_at lt (by
        have : (nL h).length = h.length := by unfold nL; rw [List.length_map]
        exact po.less (by omega)), fun ys o2 pm po2 => ?_⟩
      · obtain ⟨j, hj, rfl⟩ := List.mem_map.mp hd
        have := H.lt j hj
        exact (sm_int (by omega) (by omega)).mono (by decide) (by decide)
      obtain ⟨hs, ph, rfl⟩ := perm_unmap (f := fun k : Nat => D.int (k : Nat)) (fun d => match d with | .int i => i.toNat | _ => 0) (fun x _ => Int.toNat_natCast x) (show ys.Perm (h.map fun k : Nat => D.int (k : Nat)) from pm)
      rw [pot_app lt]
      have H2 : Hist m n hs := ⟨ph.nodup_iff.mpr H.nd, fun k hk => H.lt k (ph.mem_iff.mp hk), by rw [ph.length_eq]; exact few⟩
      have eF : layF P R hs = layF P R h := layF_any S T H2 H fun k => ph.mem_iff
      try simp only [e_var, e_C, e_op, e_neg, e_isN, e_notN, e_and, e_or, e_not, e_test, e_tAnd, e_tOr, e_tNot, e_tYes, e_if, e_aNil, e_aCons, e_tup, e_lst, e_lstN, e_len0, e_len1, e_len2, e_len3, e_len4, e_len5, e_cb, e_on1, e_on2, e_onI, e_onB, e_onO, e_onO0, e_onOO, e_I0, e_I, e_add, e_addT, e_addS, e_addL, e_addLR, e_addRL, e_addRR, e_mul, e_mulL, e_mulT, e_rev, e_revT, e_ix, e_eqI, e_eqS, e_eqB, e_neI, e_neS, e_neB, e_ltI, e_chain, e_len, e_abs, e_2I, e_tuple1, e_tuple2, e_tuple3, e_listT, e_listN, e_allR, e_seqT, e_seqK, e_seqL, e_isi, e_isB, e_notB, e_truth, e_next, e_drop, e_ret, e_retN, e_ifS, e_set, e_asg, e_par, e_nm, e_gsN, e_gsC, e_gTpK, e_gTpL, e_sum, e_maxL, e_minL, e_maxDef, e_int, e_intB, e_aug, e_on3, e_par3, e_newK, e_getK, e_keyI, e_keyS, e_inK, e_ninK, e_putK, e_lenK, e_lstS, e_seqX, e_gTpT, e_oN, e_oS, e_sl, e_slT, e_slL, e_finT, e_finN, e_index, e_idxT, e_idxL, e_mIx, e_ixST, e_ixSL, e_mtL, e_w, e_w1, e_w2, e_wE, e_wZ, e_itK, e_itT, e_itL, e_itT2, e_itL2, e_lc, e_for, e_wipe0, e_wipe, e_okI, e_okR, e_gSb, List.getElem?_cons_zero, List.getElem?_cons_succ, List.set_cons_zero, List.set_cons_succ, e_getD, e_get1, e_lockK, e_dlockK, e_wItemsK, e_wKeysK, e_getR, e_inR, e_ninR, e_dictP, e_sortTs, e_maxTs, e_pop, e_lenSetL, e_gSbK]
      refine ⟨m, n, P, R, hs, rfl, S, by omega, by omega, by omega, H2, ?_⟩
      rw [eF]
      try dsimp only
      rw [e_seq]
      try simp only [e_var, e_C, e_op, e_neg, e_isN, e_notN, e_and, e_or, e_not, e_test, e_tAnd, e_tOr, e_tNot, e_tYes, e_if, e_aNil, e_aCons, e_tup, e_lst, e_lstN, e_len0, e_len1, e_len2, e_len3, e_len4, e_len5, e_cb, e_on1, e_on2, e_onI, e_onB, e_onO, e_onO0, e_onOO, e_I0, e_I, e_add, e_addT, e_addS, e_addL, e_addLR, e_addRL, e_addRR, e_mul, e_mulL, e_mulT, e_rev, e_revT, e_ix, e_eqI, e_eqS, e_eqB, e_neI, e_neS, e_neB, e_ltI, e_chain, e_len, e_abs, e_2I, e_tuple1, e_tuple2, e_tuple3, e_listT, e_listN, e_allR, e_seqT, e_seqK, e_seqL, e_isi, e_isB, e_notB, e_truth, e_next, e_drop, e_ret, e_retN, e_ifS, e_set, e_asg, e_par, e_nm, e_gsN, e_gsC, e_gTpK, e_gTpL, e_sum, e_maxL, e_minL, e_maxDef, e_int, e_intB, e_aug, e_on3, e_par3, e_newK, e_getK, e_keyI, e_keyS, e_inK, e_ninK, e_putK, e_lenK, e_lstS, e_seqX, e_gTpT, e_oN, e_oS, e_sl, e_slT, e_slL, e_finT, e_finN, e_index, e_idxT, e_idxL, e_mIx, e_ixST, e_ixSL, e_mtL, e_w, e_w1, e_w2, e_wE, e_wZ, e_itK, e_itT, e_itL, e_itT2, e_itL2, e_lc, e_for, e_wipe0, e_wipe, e_okI, e_okR, e_gSb, List.getElem?_cons_zero, List.getElem?_cons_succ, List.set_cons_zero, List.set_cons_succ, e_getD, e_get1, e_lockK, e_dlockK, e_wItemsK, e_wKeysK, e_getR, e_inR, e_ninR, e_dictP, e_sortTs, e_maxTs, e_pop, e_lenSetL, e_gSbK]
      refine ⟨m, n, P, R, h, rfl, S, by omega, by omega, H, fun e ks hl => ?_⟩
      obtain ⟨g, gk⟩ := layF_good S H
      have sF := layF_stb S T H
      generalize layF P R h = sl at g gk sF hl
      have Ly := g.lay
      have smF := sm_lay Ly (show m ≤ 60 by omega) (show n ≤ 60 by omega)
      have lst : st.length = (st.set p o2).length := List.length_set.symm
      generalize hb : st.set p o2 ++ js = B
      have own : (B ++ [O.dK (kvE e ks)])[B.length]? = some (.dK (kvE e ks)) := by simp
      try dsimp only
      rw [e_seq]
      try simp only [e_var, e_C, e_op, e_neg, e_isN, e_notN, e_and, e_or, e_not, e_test, e_tAnd, e_tOr, e_tNot, e_tYes, e_if, e_aNil, e_aCons, e_tup, e_lst, e_lstN, e_len0, e_len1, e_len2, e_len3, e_len4, e_len5, e_cb, e_on1, e_on2, e_onI, e_onB, e_onO, e_onO0, e_onOO, e_I0, e_I, e_add, e_addT, e_addS, e_addL, e_addLR, e_addRL, e_addRR, e_mul, e_mulL, e_mulT, e_rev, e_revT, e_ix, e_eqI, e_eqS, e_eqB, e_neI, e_neS, e_neB, e_ltI, e_chain, e_len, e_abs, e_2I, e_tuple1, e_tuple2, e_tuple3, e_listT, e_listN, e_allR, e_seqT, e_seqK, e_seqL, e_isi, e_isB, e_notB, e_truth, e_next, e_drop, e_ret, e_retN, e_ifS, e_set, e_asg, e_par, e_nm, e_gsN, e_gsC, e_gTpK, e_gTpL, e_sum, e_maxL, e_minL, e_maxDef, e_int, e_intB, e_aug, e_on3, e_par3, e_newK, e_getK, e_keyI, e_keyS, e_inK, e_ninK, e_putK, e_lenK, e_lstS, e_seqX, e_gTpT, e_oN, e_oS, e_sl, e_slT, e_slL, e_finT, e_finN, e_index, e_idxT, e_idxL, e_mIx, e_ixST, e_ixSL, e_mtL, e_w, e_w1, e_w2, e_wE, e_wZ, e_itK, e_itT, e_itL, e_itT2, e_itL2, e_lc, e_for, e_wipe0, e_wipe, e_okI, e_okR, e_gSb, List.getElem?_cons_zero, List.getElem?_cons_succ, List.set_cons_zero, List.set_cons_succ, e_getD, e_get1, e_lockK, e_dlockK, e_wItemsK, e_wKeysK, e_getR, e_inR, e_ninR, e_dictP, e_sortTs, e_maxTs, e_pop, e_lenSetL, e_gSbK]
      refine ⟨B.length, m, n, sl, e, ks, rfl, own, hl, Ly, by omega, ?_⟩
      refine ne_row smF (by decide) ?_
      rw [e_onB, if_neg (by decide)]
      try dsimp only
      rw [e_seq]
      try simp only [e_var, e_C, e_op, e_neg, e_isN, e_notN, e_and, e_or, e_not, e_test, e_tAnd, e_tOr, e_tNot, e_tYes, e_if, e_aNil, e_aCons, e_tup, e_lst, e_lstN, e_len0, e_len1, e_len2, e_len3, e_len4, e_len5, e_cb, e_on1, e_on2, e_onI, e_onB, e_onO, e_onO0, e_onOO, e_I0, e_I, e_add, e_addT, e_addS, e_addL, e_addLR, e_addRL, e_addRR, e_mul, e_mulL, e_mulT, e_rev, e_revT, e_ix, e_eqI, e_eqS, e_eqB, e_neI, e_neS, e_neB, e_ltI, e_chain, e_len, e_abs, e_2I, e_tuple1, e_tuple2, e_tuple3, e_listT, e_listN, e_allR, e_seqT, e_seqK, e_seqL, e_isi, e_isB, e_notB, e_truth, e_next, e_drop, e_ret, e_retN, e_ifS, e_set, e_asg, e_par, e_nm, e_gsN, e_gsC, e_gTpK, e_gTpL, e_sum, e_maxL, e_minL, e_maxDef, e_int, e_intB, e_aug, e_on3, e_par3, e_newK, e_getK, e_keyI, e_keyS, e_inK, e_ninK, e_putK, e_lenK, e_lstS, e_seqX, e_gTpT, e_oN, e_oS, e_sl, e_slT, e_slL, e_finT, e_finN, e_index, e_idxT, e_idxL, e_mIx, e_ixST, e_ixSL, e_mtL, e_w, e_w1, e_w2, e_wE, e_wZ, e_itK, e_itT, e_itL, e_itT2, e_itL2, e_lc, e_for, e_wipe0, e_wipe, e_okI, e_okR, e_gSb, List.getElem?_cons_zero, List.getElem?_cons_succ, List.set_cons_zero, List.set_cons_succ, e_getD, e_get1, e_lockK, e_dlockK, e_wItemsK, e_wKeysK, e_getR, e_inR, e_ninR, e_dictP, e_sortTs, e_maxTs, e_pop, e_lenSetL, e_gSbK]
      rw [onDk_ref own]
      intro ob ys
      have es : (B ++ [O.dK (kvE e ks)]).set B.length (O.lk ob ys (kvE e ks)) = B ++ [O.lk ob ys (kvE e ks)] := by rw [List.set_append_right _ _ (Nat.le_refl _), Nat.sub_self]; rfl
      have eb : (B ++ [O.lk ob ys (kvE e ks)]).set B.length (O.dK (kvE e ks)) = B ++ [O.dK (kvE e ks)] := by rw [List.set_append_right _ _ (Nat.le_refl _), Nat.sub_self]; rfl
      have ownL : (B ++ [O.lk ob ys (kvE e ks)])[B.length]? = some (.lk ob ys (kvE e ks)) := by simp
      rw [es, onLk_ref ownL]
      have ek : keysK (kvE e ks) = ks.map fun s : Nat => D.int (s : Nat) := by unfold keysK kvE; rw [List.map_map]; rfl
      rw [ek]
      have eP : rowsD P = .tup (P.map rowD) := rfl
      have eh : histD h = .tup ((hI h).map D.int) := hist_row h
      refine for_inv (fun left2 r st' => ∃ (lf : List Nat) (x9 x10 : Option D), left2 = lf.map (fun s : Nat => D.int (s : Nat)) ∧ (∀ s ∈ lf, s ∈ ks) ∧ r = [some (.ref p), some d, some (.int (m : Nat)), some (.int (n : Nat)), some (.tup (P.map rowD)), some (.tup (R.map rowsD)), some (histD h), some (rowD sl), some (.ref B.length), x9, x10, x11] ∧ st' = B ++ [.lk ob ys (kvE e ks)]) ?_ ?_ _ _ _ ⟨ks, _, _, rfl, fun s hs => hs, rfl, rfl⟩
      · rintro dd left2 r st' N2 hN2 ⟨lf, x9, x10, el, hlf, rfl, rfl⟩
        refine ⟨ownL, ?_⟩
        cases lf with
        | nil => cases el
        | cons s lf =>
          rw [List.map_cons] at el
          injection el with e1 e2
          subst e1
          have sk := hlf s List.mem_cons_self
          have sn := hl.lt s sk
          have a := (hl.at_ s (e s)).mpr ⟨sk, rfl⟩
          have am := (Ly.key a).1
          try simp only [e_var, e_C, e_op, e_neg, e_isN, e_notN, e_and, e_or, e_not, e_test, e_tAnd, e_tOr, e_tNot, e_tYes, e_if, e_aNil, e_aCons, e_tup, e_lst, e_lstN, e_len0, e_len1, e_len2, e_len3, e_len4, e_len5, e_cb, e_on1, e_on2, e_onI, e_onB, e_onO, e_onO0, e_onOO, e_I0, e_I, e_add, e_addT, e_addS, e_addL, e_addLR, e_addRL, e_addRR, e_mul, e_mulL, e_mulT, e_rev, e_revT, e_ix, e_eqI, e_eqS, e_eqB, e_neI, e_neS, e_neB, e_ltI, e_chain, e_len, e_abs, e_2I, e_tuple1, e_tuple2, e_tuple3, e_listT, e_listN, e_allR, e_seqT, e_seqK, e_seqL, e_isi, e_isB, e_notB, e_truth, e_next, e_drop, e_ret, e_retN, e_ifS, e_set, e_asg, e_par, e_nm, e_gsN, e_gsC, e_gTpK, e_gTpL, e_sum, e_maxL, e_minL, e_maxDef, e_int, e_intB, e_aug, e_on3, e_par3, e_newK, e_getK, e_keyI, e_keyS, e_inK, e_ninK, e_putK, e_lenK, e_lstS, e_seqX, e_gTpT, e_oN, e_oS, e_sl, e_slT, e_slL, e_finT, e_finN, e_index, e_idxT, e_idxL, e_mIx, e_ixST, e_ixSL, e_mtL, e_w, e_w1, e_w2, e_wE, e_wZ, e_itK, e_itT, e_itL, e_itT2, e_itL2, e_lc, e_for, e_wipe0, e_wipe, e_okI, e_okR, e_gSb, List.getElem?_cons_zero, List.getElem?_cons_succ, List.set_cons_zero, List.set_cons_succ, e_getD, e_get1, e_lockK, e_dlockK, e_wItemsK, e_wKeysK, e_getR, e_inR, e_ninR, e_dictP, e_sortTs, e_maxTs, e_pop, e_lenSetL, e_gSbK]
          try dsimp only
          rw [e_seq]
          try simp only [e_var, e_C, e_op, e_neg, e_isN, e_notN, e_and, e_or, e_not, e_test, e_tAnd, e_tOr, e_tNot, e_tYes, e_if, e_aNil, e_aCons, e_tup, e_lst, e_lstN, e_len0, e_len1, e_len2, e_len3, e_len4, e_len5, e_cb, e_on1, e_on2, e_onI, e_onB, e_onO, e_onO0, e_onOO, e_I0, e_I, e_add, e_addT, e_addS, e_addL, e_addLR, e_addRL, e_addRR, e_mul, e_mulL, e_mulT, e_rev, e_revT, e_ix, e_eqI, e_eqS, e_eqB, e_neI, e_neS, e_neB, e_ltI, e_chain, e_len, e_abs, e_2I, e_tuple1, e_tuple2, e_tuple3, e_listT, e_listN, e_allR, e_seqT, e_seqK, e_seqL, e_isi, e_isB, e_notB, e_truth, e_next, e_drop, e_ret, e_retN, e_ifS, e_set, e_asg, e_par, e_nm, e_gsN, e_gsC, e_gTpK, e_gTpL, e_sum, e_maxL, e_minL, e_maxDef, e_int, e_intB, e_aug, e_on3, e_par3, e_newK, e_getK, e_keyI, e_keyS, e_inK, e_ninK, e_putK, e_lenK, e_lstS, e_seqX, e_gTpT, e_oN, e_oS, e_sl, e_slT, e_slL, e_finT, e_finN, e_index, e_idxT, e_idxL, e_mIx, e_ixST, e_ixSL, e_mtL, e_w, e_w1, e_w2, e_wE, e_wZ, e_itK, e_itT, e_itL, e_itT2, e_itL2, e_lc, e_for, e_wipe0, e_wipe, e_okI, e_okR, e_gSb, List.getElem?_cons_zero, List.getElem?_cons_succ, List.set_cons_zero, List.set_cons_succ, e_getD, e_get1, e_lockK, e_dlockK, e_wItemsK, e_wKeysK, e_getR, e_inR, e_ninR, e_dictP, e_sortTs, e_maxTs, e_pop, e_lenSetL, e_gSbK]
          rw [onDr_l ownL, kvE_val, if_pos sk, e_onO]
          try simp only [e_var, e_C, e_op, e_neg, e_isN, e_notN, e_and, e_or, e_not, e_test, e_tAnd, e_tOr, e_tNot, e_tYes, e_if, e_aNil, e_aCons, e_tup, e_lst, e_lstN, e_len0, e_len1, e_len2, e_len3, e_len4, e_len5, e_cb, e_on1, e_on2, e_onI, e_onB, e_onO, e_onO0, e_onOO, e_I0, e_I, e_add, e_addT, e_addS, e_addL, e_addLR, e_addRL, e_addRR, e_mul, e_mulL, e_mulT, e_rev, e_revT, e_ix, e_eqI, e_eqS, e_eqB, e_neI, e_neS, e_neB, e_ltI, e_chain, e_len, e_abs, e_2I, e_tuple1, e_tuple2, e_tuple3, e_listT, e_listN, e_allR, e_seqT, e_seqK, e_seqL, e_isi, e_isB, e_notB, e_truth, e_next, e_drop, e_ret, e_retN, e_ifS, e_set, e_asg, e_par, e_nm, e_gsN, e_gsC, e_gTpK, e_gTpL, e_sum, e_maxL, e_minL, e_maxDef, e_int, e_intB, e_aug, e_on3, e_par3, e_newK, e_getK, e_keyI, e_keyS, e_inK, e_ninK, e_putK, e_lenK, e_lstS, e_seqX, e_gTpT, e_oN, e_oS, e_sl, e_slT, e_slL, e_finT, e_finN, e_index, e_idxT, e_idxL, e_mIx, e_ixST, e_ixSL, e_mtL, e_w, e_w1, e_w2, e_wE, e_wZ, e_itK, e_itT, e_itL, e_itT2, e_itL2, e_lc, e_for, e_wipe0, e_wipe, e_okI, e_okR, e_gSb, List.getElem?_cons_zero, List.getElem?_cons_succ, List.set_cons_zero, List.set_cons_succ, e_getD, e_get1, e_lockK, e_dlockK, e_wItemsK, e_wKeysK, e_getR, e_inR, e_ninR, e_dictP, e_sortTs, e_maxTs, e_pop, e_lenSetL, e_gSbK]
          refine ⟨m, n, P, R, sl, e s, rfl, S, all, by omega, by omega, Ly, am, ?_⟩
          have sy := seek_yes (R := R) S am g sF a n 0 (by omega) (by omega)
          rw [sy]
          have rl := (S.rk_at am sn).2.1
          have sm2 : Sm 1 47 (.tup [.int (s : Nat), .int ((rk P (e s) s + 1 : Nat) : Int)]) := sm_tup (k := 0) (c := 20) (m := 2) (fun d hd => by
            simp only [List.mem_cons, List.not_mem_nil, or_false] at hd
            rcases hd with rfl | rfl
            · exact sm_int (by omega) (by omega)
            · exact sm_int (by omega) (by omega)) (by simp)
          have ef : foundD (((s : Nat) : Int), rk P (e s) s + 1) = .tup [.int (s : Nat), .int ((rk P (e s) s + 1 : Nat) : Int)] := rfl
          rw [ef]
          refine repr_txt sm2 nrT (by decide) (by decide) ?_
          try simp only [e_var, e_C, e_op, e_neg, e_isN, e_notN, e_and, e_or, e_not, e_test, e_tAnd, e_tOr, e_tNot, e_tYes, e_if, e_aNil, e_aCons, e_tup, e_lst, e_lstN, e_len0, e_len1, e_len2, e_len3, e_len4, e_len5, e_cb, e_on1, e_on2, e_onI, e_onB, e_onO, e_onO0, e_onOO, e_I0, e_I, e_add, e_addT, e_addS, e_addL, e_addLR, e_addRL, e_addRR, e_mul, e_mulL, e_mulT, e_rev, e_revT, e_ix, e_eqI, e_eqS, e_eqB, e_neI, e_neS, e_neB, e_ltI, e_chain, e_len, e_abs, e_2I, e_tuple1, e_tuple2, e_tuple3, e_listT, e_listN, e_allR, e_seqT, e_seqK, e_seqL, e_isi, e_isB, e_notB, e_truth, e_next, e_drop, e_ret, e_retN, e_ifS, e_set, e_asg, e_par, e_nm, e_gsN, e_gsC, e_gTpK, e_gTpL, e_sum, e_maxL, e_minL, e_maxDef, e_int, e_intB, e_aug, e_on3, e_par3, e_newK, e_getK, e_keyI, e_keyS, e_inK, e_ninK, e_putK, e_lenK, e_lstS, e_seqX, e_gTpT, e_oN, e_oS, e_sl, e_slT, e_slL, e_finT, e_finN, e_index, e_idxT, e_idxL, e_mIx, e_ixST, e_ixSL, e_mtL, e_w, e_w1, e_w2, e_wE, e_wZ, e_itK, e_itT, e_itL, e_itT2, e_itL2, e_lc, e_for, e_wipe0, e_wipe, e_okI, e_okR, e_gSb, List.getElem?_cons_zero, List.getElem?_cons_succ, List.set_cons_zero, List.set_cons_succ, e_getD, e_get1, e_lockK, e_dlockK, e_wItemsK, e_wKeysK, e_getR, e_inR, e_ninR, e_dictP, e_sortTs, e_maxTs, e_pop, e_lenSetL, e_gSbK, S.p_at am, intsD_ints, (S.rk_at am sn).2.2, true_and]
          have ec : ((rk P (e s) s : Nat) : Int) + 1 = ((rk P (e s) s + 1 : Nat) : Int) := by omega
          rw [ec]
          refine repr_txt sm2 nrT (by decide) (by decide) ?_
          try simp only [e_var, e_C, e_op, e_neg, e_isN, e_notN, e_and, e_or, e_not, e_test, e_tAnd, e_tOr, e_tNot, e_tYes, e_if, e_aNil, e_aCons, e_tup, e_lst, e_lstN, e_len0, e_len1, e_len2, e_len3, e_len4, e_len5, e_cb, e_on1, e_on2, e_onI, e_onB, e_onO, e_onO0, e_onOO, e_I0, e_I, e_add, e_addT, e_addS, e_addL, e_addLR, e_addRL, e_addRR, e_mul, e_mulL, e_mulT, e_rev, e_revT, e_ix, e_eqI, e_eqS, e_eqB, e_neI, e_neS, e_neB, e_ltI, e_chain, e_len, e_abs, e_2I, e_tuple1, e_tuple2, e_tuple3, e_listT, e_listN, e_allR, e_seqT, e_seqK, e_seqL, e_isi, e_isB, e_notB, e_truth, e_next, e_drop, e_ret, e_retN, e_ifS, e_set, e_asg, e_par, e_nm, e_gsN, e_gsC, e_gTpK, e_gTpL, e_sum, e_maxL, e_minL, e_maxDef, e_int, e_intB, e_aug, e_on3, e_par3, e_newK, e_getK, e_keyI, e_keyS, e_inK, e_ninK, e_putK, e_lenK, e_lstS, e_seqX, e_gTpT, e_oN, e_oS, e_sl, e_slT, e_slL, e_finT, e_finN, e_index, e_idxT, e_idxL, e_mIx, e_ixST, e_ixSL, e_mtL, e_w, e_w1, e_w2, e_wE, e_wZ, e_itK, e_itT, e_itL, e_itT2, e_itL2, e_lc, e_for, e_wipe0, e_wipe, e_okI, e_okR, e_gSb, List.getElem?_cons_zero, List.getElem?_cons_succ, List.set_cons_zero, List.set_cons_succ, e_getD, e_get1, e_lockK, e_dlockK, e_wItemsK, e_wKeysK, e_getR, e_inR, e_ninR, e_dictP, e_sortTs, e_maxTs, e_pop, e_lenSetL, e_gSbK, decide_true, Bool.not_true]
          rw [if_neg (by simp)]
          exact hN2 _ _ (.inl ⟨lf, _, _, e2, fun s hs => hlf s (List.mem_cons_of_mem _ hs), rfl, rfl⟩)
      · rintro r st' ⟨lf, x9, x10, el, hlf, rfl, rfl⟩
        refine ⟨ownL, ?_⟩
        show lkN _ _ _ _ _ _
        refine ⟨ownL, ?_⟩
        rw [eb]
        try dsimp only
        rw [e_seq]
        try simp only [e_var, e_C, e_op, e_neg, e_isN, e_notN, e_and, e_or, e_not, e_test, e_tAnd, e_tOr, e_tNot, e_tYes, e_if, e_aNil, e_aCons, e_tup, e_lst, e_lstN, e_len0, e_len1, e_len2, e_len3, e_len4, e_len5, e_cb, e_on1, e_on2, e_onI, e_onB, e_onO, e_onO0, e_onOO, e_I0, e_I, e_add, e_addT, e_addS, e_addL, e_addLR, e_addRL, e_addRR, e_mul, e_mulL, e_mulT, e_rev, e_revT, e_ix, e_eqI, e_eqS, e_eqB, e_neI, e_neS, e_neB, e_ltI, e_chain, e_len, e_abs, e_2I, e_tuple1, e_tuple2, e_tuple3, e_listT, e_listN, e_allR, e_seqT, e_seqK, e_seqL, e_isi, e_isB, e_notB, e_truth, e_next, e_drop, e_ret, e_retN, e_ifS, e_set, e_asg, e_par, e_nm, e_gsN, e_gsC, e_gTpK, e_gTpL, e_sum, e_maxL, e_minL, e_maxDef, e_int, e_intB, e_aug, e_on3, e_par3, e_newK, e_getK, e_keyI, e_keyS, e_inK, e_ninK, e_putK, e_lenK, e_lstS, e_seqX, e_gTpT, e_oN, e_oS, e_sl, e_slT, e_slL, e_finT, e_finN, e_index, e_idxT, e_idxL, e_mIx, e_ixST, e_ixSL, e_mtL, e_w, e_w1, e_w2, e_wE, e_wZ, e_itK, e_itT, e_itL, e_itT2, e_itL2, e_lc, e_for, e_wipe0, e_wipe, e_okI, e_okR, e_gSb, List.getElem?_cons_zero, List.getElem?_cons_succ, List.set_cons_zero, List.set_cons_succ, e_getD, e_get1, e_lockK, e_dlockK, e_wItemsK, e_wKeysK, e_getR, e_inR, e_ninR, e_dictP, e_sortTs, e_maxTs, e_pop, e_lenSetL, e_gSbK, Int.toNat_natCast]
        refine ⟨⟨by omega, by omega⟩, by rw [rgD_length]; omega, ?_⟩
        refine lc_rngIf (fun k : Nat => !decide ((k : Int) ∈ hI h)) (fun k => D.int (k : Nat)) (fun k km Q' q' => ?_) (fun k km hp Q' q' => ?_) ?_
        · try simp only [e_var, e_C, e_op, e_neg, e_isN, e_notN, e_and, e_or, e_not, e_test, e_tAnd, e_tOr, e_tNot, e_tYes, e_if, e_aNil, e_aCons, e_tup, e_lst, e_lstN, e_len0, e_len1, e_len2, e_len3, e_len4, e_len5, e_cb, e_on1, e_on2, e_onI, e_onB, e_onO, e_onO0, e_onOO, e_I0, e_I, e_add, e_addT, e_addS, e_addL, e_addLR, e_addRL, e_addRR, e_mul, e_mulL, e_mulT, e_rev, e_revT, e_ix, e_eqI, e_eqS, e_eqB, e_neI, e_neS, e_neB, e_ltI, e_chain, e_len, e_abs, e_2I, e_tuple1, e_tuple2, e_tuple3, e_listT, e_listN, e_allR, e_seqT, e_seqK, e_seqL, e_isi, e_isB, e_notB, e_truth, e_next, e_drop, e_ret, e_retN, e_ifS, e_set, e_asg, e_par, e_nm, e_gsN, e_gsC, e_gTpK, e_gTpL, e_sum, e_maxL, e_minL, e_maxDef, e_int, e_intB, e_aug, e_on3, e_par3, e_newK, e_getK, e_keyI, e_keyS, e_inK, e_ninK, e_putK, e_lenK, e_lstS, e_seqX, e_gTpT, e_oN, e_oS, e_sl, e_slT, e_slL, e_finT, e_finN, e_index, e_idxT, e_idxL, e_mIx, e_ixST, e_ixSL, e_mtL, e_w, e_w1, e_w2, e_wE, e_wZ, e_itK, e_itT, e_itL, e_itT2, e_itL2, e_lc, e_for, e_wipe0, e_wipe, e_okI, e_okR, e_gSb, List.getElem?_cons_zero, List.getElem?_cons_succ, List.set_cons_zero, List.set_cons_succ, e_getD, e_get1, e_lockK, e_dlockK, e_wItemsK, e_wKeysK, e_getR, e_inR, e_ninR, e_dictP, e_sortTs, e_maxTs, e_pop, e_lenSetL, e_gSbK, eh]
          refine nin_row ?_
          exact q'
        · try simp only [e_var, e_C, e_op, e_neg, e_isN, e_notN, e_and, e_or, e_not, e_test, e_tAnd, e_tOr, e_tNot, e_tYes, e_if, e_aNil, e_aCons, e_tup, e_lst, e_lstN, e_len0, e_len1, e_len2, e_len3, e_len4, e_len5, e_cb, e_on1, e_on2, e_onI, e_onB, e_onO, e_onO0, e_onOO, e_I0, e_I, e_add, e_addT, e_addS, e_addL, e_addLR, e_addRL, e_addRR, e_mul, e_mulL, e_mulT, e_rev, e_revT, e_ix, e_eqI, e_eqS, e_eqB, e_neI, e_neS, e_neB, e_ltI, e_chain, e_len, e_abs, e_2I, e_tuple1, e_tuple2, e_tuple3, e_listT, e_listN, e_allR, e_seqT, e_seqK, e_seqL, e_isi, e_isB, e_notB, e_truth, e_next, e_drop, e_ret, e_retN, e_ifS, e_set, e_asg, e_par, e_nm, e_gsN, e_gsC, e_gTpK, e_gTpL, e_sum, e_maxL, e_minL, e_maxDef, e_int, e_intB, e_aug, e_on3, e_par3, e_newK, e_getK, e_keyI, e_keyS, e_inK, e_ninK, e_putK, e_lenK, e_lstS, e_seqX, e_gTpT, e_oN, e_oS, e_sl, e_slT, e_slL, e_finT, e_finN, e_index, e_idxT, e_idxL, e_mIx, e_ixST, e_ixSL, e_mtL, e_w, e_w1, e_w2, e_wE, e_wZ, e_itK, e_itT, e_itL, e_itT2, e_itL2, e_lc, e_for, e_wipe0, e_wipe, e_okI, e_okR, e_gSb, List.getElem?_cons_zero, List.getElem?_cons_succ, List.set_cons_zero, List.set_cons_succ, e_getD, e_get1, e_lockK, e_dlockK, e_wItemsK, e_wKeysK, e_getR, e_inR, e_ninR, e_dictP, e_sortTs, e_maxTs, e_pop, e_lenSetL, e_gSbK]
          exact q'
        have oth : ∀ k ∈ (List.range m).filter (fun k : Nat => !decide ((k : Int) ∈ hI h)), k < m ∧ k ∉ h := fun k hk => by
          obtain ⟨h1, h2⟩ := List.mem_filter.mp hk
          refine ⟨List.mem_range.mp h1, fun z => ?_⟩
          have : (k : Int) ∈ hI h := List.mem_map.mpr ⟨k, z, rfl⟩
          rw [decide_eq_true this] at h2
          cases h2
        have lo4 : ((List.range m).filter (fun k : Nat => !decide ((k : Int) ∈ hI h))).length ≤ m := by
          have := List.length_filter_le (fun k : Nat => !decide ((k : Int) ∈ hI h)) (List.range m)
          rw [List.length_range] at this
          exact this
        generalize (List.range m).filter (fun k : Nat => !decide ((k : Int) ∈ hI h)) = others at oth lo4
        try simp only [e_var, e_C, e_op, e_neg, e_isN, e_notN, e_and, e_or, e_not, e_test, e_tAnd, e_tOr, e_tNot, e_tYes, e_if, e_aNil, e_aCons, e_tup, e_lst, e_lstN, e_len0, e_len1, e_len2, e_len3, e_len4, e_len5, e_cb, e_on1, e_on2, e_onI, e_onB, e_onO, e_onO0, e_onOO, e_I0, e_I, e_add, e_addT, e_addS, e_addL, e_addLR, e_addRL, e_addRR, e_mul, e_mulL, e_mulT, e_rev, e_revT, e_ix, e_eqI, e_eqS, e_eqB, e_neI, e_neS, e_neB, e_ltI, e_chain, e_len, e_abs, e_2I, e_tuple1, e_tuple2, e_tuple3, e_listT, e_listN, e_allR, e_seqT, e_seqK, e_seqL, e_isi, e_isB, e_notB, e_truth, e_next, e_drop, e_ret, e_retN, e_ifS, e_set, e_asg, e_par, e_nm, e_gsN, e_gsC, e_gTpK, e_gTpL, e_sum, e_maxL, e_minL, e_maxDef, e_int, e_intB, e_aug, e_on3, e_par3, e_newK, e_getK, e_keyI, e_keyS, e_inK, e_ninK, e_putK, e_lenK, e_lstS, e_seqX, e_gTpT, e_oN, e_oS, e_sl, e_slT, e_slL, e_finT, e_finN, e_index, e_idxT, e_idxL, e_mIx, e_ixST, e_ixSL, e_mtL, e_w, e_w1, e_w2, e_wE, e_wZ, e_itK, e_itT, e_itL, e_itT2, e_itL2, e_lc, e_for, e_wipe0, e_wipe, e_okI, e_okR, e_gSb, List.getElem?_cons_zero, List.getElem?_cons_succ, List.set_cons_zero, List.set_cons_succ, e_getD, e_get1, e_lockK, e_dlockK, e_wItemsK, e_wKeysK, e_getR, e_inR, e_ninR, e_dictP, e_sortTs, e_maxTs, e_pop, e_lenSetL, e_gSbK]
        try dsimp only
        rw [e_seq]
        try simp only [e_var, e_C, e_op, e_neg, e_isN, e_notN, e_and, e_or, e_not, e_test, e_tAnd, e_tOr, e_tNot, e_tYes, e_if, e_aNil, e_aCons, e_tup, e_lst, e_lstN, e_len0, e_len1, e_len2, e_len3, e_len4, e_len5, e_cb, e_on1, e_on2, e_onI, e_onB, e_onO, e_onO0, e_onOO, e_I0, e_I, e_add, e_addT, e_addS, e_addL, e_addLR, e_addRL, e_addRR, e_mul, e_mulL, e_mulT, e_rev, e_revT, e_ix, e_eqI, e_eqS, e_eqB, e_neI, e_neS, e_neB, e_ltI, e_chain, e_len, e_abs, e_2I, e_tuple1, e_tuple2, e_tuple3, e_listT, e_listN, e_allR, e_seqT, e_seqK, e_seqL, e_isi, e_isB, e_notB, e_truth, e_next, e_drop, e_ret, e_retN, e_ifS, e_set, e_asg, e_par, e_nm, e_gsN, e_gsC, e_gTpK, e_gTpL, e_sum, e_maxL, e_minL, e_maxDef, e_int, e_intB, e_aug, e_on3, e_par3, e_newK, e_getK, e_keyI, e_keyS, e_inK, e_ninK, e_putK, e_lenK, e_lstS, e_seqX, e_gTpT, e_oN, e_oS, e_sl, e_slT, e_slL, e_finT, e_finN, e_index, e_idxT, e_idxL, e_mIx, e_ixST, e_ixSL, e_mtL, e_w, e_w1, e_w2, e_wE, e_wZ, e_itK, e_itT, e_itL, e_itT2, e_itL2, e_lc, e_for, e_wipe0, e_wipe, e_okI, e_okR, e_gSb, List.getElem?_cons_zero, List.getElem?_cons_succ, List.set_cons_zero, List.set_cons_succ, e_getD, e_get1, e_lockK, e_dlockK, e_wItemsK, e_wKeysK, e_getR, e_inR, e_ninR, e_dictP, e_sortTs, e_maxTs, e_pop, e_lenSetL, e_gSbK, List.length_map]
        refine ⟨by omega, ?_⟩
        refine compL_gen (fun k : Nat => D.int (k : Nat)) (fun _ => D.bl true) others [] (fun c hc Q' kk => kk _ fun Q2 q2 => ?_) ?_
        · try simp only [e_var, e_C, e_op, e_neg, e_isN, e_notN, e_and, e_or, e_not, e_test, e_tAnd, e_tOr, e_tNot, e_tYes, e_if, e_aNil, e_aCons, e_tup, e_lst, e_lstN, e_len0, e_len1, e_len2, e_len3, e_len4, e_len5, e_cb, e_on1, e_on2, e_onI, e_onB, e_onO, e_onO0, e_onOO, e_I0, e_I, e_add, e_addT, e_addS, e_addL, e_addLR, e_addRL, e_addRR, e_mul, e_mulL, e_mulT, e_rev, e_revT, e_ix, e_eqI, e_eqS, e_eqB, e_neI, e_neS, e_neB, e_ltI, e_chain, e_len, e_abs, e_2I, e_tuple1, e_tuple2, e_tuple3, e_listT, e_listN, e_allR, e_seqT, e_seqK, e_seqL, e_isi, e_isB, e_notB, e_truth, e_next, e_drop, e_ret, e_retN, e_ifS, e_set, e_asg, e_par, e_nm, e_gsN, e_gsC, e_gTpK, e_gTpL, e_sum, e_maxL, e_minL, e_maxDef, e_int, e_intB, e_aug, e_on3, e_par3, e_newK, e_getK, e_keyI, e_keyS, e_inK, e_ninK, e_putK, e_lenK, e_lstS, e_seqX, e_gTpT, e_oN, e_oS, e_sl, e_slT, e_slL, e_finT, e_finN, e_index, e_idxT, e_idxL, e_mIx, e_ixST, e_ixSL, e_mtL, e_w, e_w1, e_w2, e_wE, e_wZ, e_itK, e_itT, e_itL, e_itT2, e_itL2, e_lc, e_for, e_wipe0, e_wipe, e_okI, e_okR, e_gSb, List.getElem?_cons_zero, List.getElem?_cons_succ, List.set_cons_zero, List.set_cons_succ, e_getD, e_get1, e_lockK, e_dlockK, e_wItemsK, e_wKeysK, e_getR, e_inR, e_ninR, e_dictP, e_sortTs, e_maxTs, e_pop, e_lenSetL, e_gSbK]
          exact ⟨B.length, m, n, P, R, sl, e, ks, c, rfl, own, hl, S, all, g, (oth c hc).1, fun t z => (oth c hc).2 ((gk c).mp ⟨t, z⟩), by omega, n1, by omega, q2⟩
        rw [List.nil_append]
        refine all_end0 (fun d hd => by obtain ⟨_, _, rfl⟩ := List.mem_map.mp hd; rfl) ?_
        try simp only [e_var, e_C, e_op, e_neg, e_isN, e_notN, e_and, e_or, e_not, e_test, e_tAnd, e_tOr, e_tNot, e_tYes, e_if, e_aNil, e_aCons, e_tup, e_lst, e_lstN, e_len0, e_len1, e_len2, e_len3, e_len4, e_len5, e_cb, e_on1, e_on2, e_onI, e_onB, e_onO, e_onO0, e_onOO, e_I0, e_I, e_add, e_addT, e_addS, e_addL, e_addLR, e_addRL, e_addRR, e_mul, e_mulL, e_mulT, e_rev, e_revT, e_ix, e_eqI, e_eqS, e_eqB, e_neI, e_neS, e_neB, e_ltI, e_chain, e_len, e_abs, e_2I, e_tuple1, e_tuple2, e_tuple3, e_listT, e_listN, e_allR, e_seqT, e_seqK, e_seqL, e_isi, e_isB, e_notB, e_truth, e_next, e_drop, e_ret, e_retN, e_ifS, e_set, e_asg, e_par, e_nm, e_gsN, e_gsC, e_gTpK, e_gTpL, e_sum, e_maxL, e_minL, e_maxDef, e_int, e_intB, e_aug, e_on3, e_par3, e_newK, e_getK, e_keyI, e_keyS, e_inK, e_ninK, e_putK, e_lenK, e_lstS, e_seqX, e_gTpT, e_oN, e_oS, e_sl, e_slT, e_slL, e_finT, e_finN, e_index, e_idxT, e_idxL, e_mIx, e_ixST, e_ixSL, e_mtL, e_w, e_w1, e_w2, e_wE, e_wZ, e_itK, e_itT, e_itL, e_itT2, e_itL2, e_lc, e_for, e_wipe0, e_wipe, e_okI, e_okR, e_gSb, List.getElem?_cons_zero, List.getElem?_cons_succ, List.set_cons_zero, List.set_cons_succ, e_getD, e_get1, e_lockK, e_dlockK, e_wItemsK, e_wKeysK, e_getR, e_inR, e_ninR, e_dictP, e_sortTs, e_maxTs, e_pop, e_lenSetL, e_gSbK]
        refine ⟨B.length, m, n, sl, e, ks, rfl, own, hl, Ly, by omega, ?_⟩
        refine ne_row smF (by decide) ?_
        rw [e_onB, if_neg (by decide)]
        rw [← hb, List.append_assoc]
        exact hN _ _ (.inl ⟨o2, js ++ [.dK (kvE e ks)], _, _, _, _, _, _, _, _, _, _, _, rfl, rfl, po2.less (by omega)⟩)
    try simp only [e_var, e_C, e_op, e_neg, e_isN, e_notN, e_and, e_or, e_not, e_test, e_tAnd, e_tOr, e_tNot, e_tYes, e_if, e_aNil, e_aCons, e_tup, e_lst, e_lstN, e_len0, e_len1, e_len2, e_len3, e_len4, e_len5, e_cb, e_on1, e_on2, e_onI, e_onB, e_onO, e_onO0, e_onOO, e_I0, e_I, e_add, e_addT, e_addS, e_addL, e_addLR, e_addRL, e_addRR, e_mul, e_mulL, e_mulT, e_rev, e_revT, e_ix, e_eqI, e_eqS, e_eqB, e_neI, e_neS, e_neB, e_ltI, e_chain, e_len, e_abs, e_2I, e_tuple1, e_tuple2, e_tuple3, e_listT, e_listN, e_allR, e_seqT, e_seqK, e_seqL, e_isi, e_isB, e_notB, e_truth, e_next, e_drop, e_ret, e_retN, e_ifS, e_set, e_asg, e_par, e_nm, e_gsN, e_gsC, e_gTpK, e_gTpL, e_sum, e_maxL, e_minL, e_maxDef, e_int, e_intB, e_aug, e_on3, e_par3, e_newK, e_getK, e_keyI, e_keyS, e_inK, e_ninK, e_putK, e_lenK, e_lstS, e_seqX, e_gTpT, e_oN, e_oS, e_sl, e_slT, e_slL, e_finT, e_finN, e_index, e_idxT, e_idxL, e_mIx, e_ixST, e_ixSL, e_mtL, e_w, e_w1, e_w2, e_wE, e_wZ, e_itK, e_itT, e_itL, e_itT2, e_itL2, e_lc, e_for, e_wipe0, e_wipe, e_okI, e_okR, e_gSb, List.getElem?_cons_zero, List.getElem?_cons_succ, List.set_cons_zero, List.set_cons_succ, e_getD, e_get1, e_lockK, e_dlockK, e_wItemsK, e_wKeysK, e_getR, e_inR, e_ninR, e_dictP, e_sortTs, e_maxTs, e_pop, e_lenSetL, e_gSbK]
    refine ⟨rfl, ?_⟩
    try dsimp only
    rw [e_seq]
    try simp only [e_var, e_C, e_op, e_neg, e_isN, e_notN, e_and, e_or, e_not, e_test, e_tAnd, e_tOr, e_tNot, e_tYes, e_if, e_aNil, e_aCons, e_tup, e_lst, e_lstN, e_len0, e_len1, e_len2, e_len3, e_len4, e_len5, e_cb, e_on1, e_on2, e_onI, e_onB, e_onO, e_onO0, e_onOO, e_I0, e_I, e_add, e_addT, e_addS, e_addL, e_addLR, e_addRL, e_addRR, e_mul, e_mulL, e_mulT, e_rev, e_revT, e_ix, e_eqI, e_eqS, e_eqB, e_neI, e_neS, e_neB, e_ltI, e_chain, e_len, e_abs, e_2I, e_tuple1, e_tuple2, e_tuple3, e_listT, e_listN, e_allR, e_seqT, e_seqK, e_seqL, e_isi, e_isB, e_notB, e_truth, e_next, e_drop, e_ret, e_retN, e_ifS, e_set, e_asg, e_par, e_nm, e_gsN, e_gsC, e_gTpK, e_gTpL, e_sum, e_maxL, e_minL, e_maxDef, e_int, e_intB, e_aug, e_on3, e_par3, e_newK, e_getK, e_keyI, e_keyS, e_inK, e_ninK, e_putK, e_lenK, e_lstS, e_seqX, e_gTpT, e_oN, e_oS, e_sl, e_slT, e_slL, e_finT, e_finN, e_index, e_idxT, e_idxL, e_mIx, e_ixST, e_ixSL, e_mtL, e_w, e_w1, e_w2, e_wE, e_wZ, e_itK, e_itT, e_itL, e_itT2, e_itL2, e_lc, e_for, e_wipe0, e_wipe, e_okI, e_okR, e_gSb, List.getElem?_cons_zero, List.getElem?_cons_succ, List.set_cons_zero, List.set_cons_succ, e_getD, e_get1, e_lockK, e_dlockK, e_wItemsK, e_wKeysK, e_getR, e_inR, e_ninR, e_dictP, e_sortTs, e_maxTs, e_pop, e_lenSetL, e_gSbK]
    have emn : (if (n : Int) < (m : Int) then (n : Int) else (m : Int)) = ((min n m : Nat) : Int) := by split <;> omega
    rw [emn]
    refine ⟨p, kb + 3800, m, min n m, rfl, pot_at lt (po3.less (by omega)), by omega, by omega, fun h o4 hnd hlt hfw po4 => ?_⟩
    rw [pot_app lt]
    have H : Hist m n h := ⟨hnd, hlt, by omega⟩
    try dsimp only
    rw [e_seq]
    try simp only [e_var, e_C, e_op, e_neg, e_isN, e_notN, e_and, e_or, e_not, e_test, e_tAnd, e_tOr, e_tNot, e_tYes, e_if, e_aNil, e_aCons, e_tup, e_lst, e_lstN, e_len0, e_len1, e_len2, e_len3, e_len4, e_len5, e_cb, e_on1, e_on2, e_onI, e_onB, e_onO, e_onO0, e_onOO, e_I0, e_I, e_add, e_addT, e_addS, e_addL, e_addLR, e_addRL, e_addRR, e_mul, e_mulL, e_mulT, e_rev, e_revT, e_ix, e_eqI, e_eqS, e_eqB, e_neI, e_neS, e_neB, e_ltI, e_chain, e_len, e_abs, e_2I, e_tuple1, e_tuple2, e_tuple3, e_listT, e_listN, e_allR, e_seqT, e_seqK, e_seqL, e_isi, e_isB, e_notB, e_truth, e_next, e_drop, e_ret, e_retN, e_ifS, e_set, e_asg, e_par, e_nm, e_gsN, e_gsC, e_gTpK, e_gTpL, e_sum, e_maxL, e_minL, e_maxDef, e_int, e_intB, e_aug, e_on3, e_par3, e_newK, e_getK, e_keyI, e_keyS, e_inK, e_ninK, e_putK, e_lenK, e_lstS, e_seqX, e_gTpT, e_oN, e_oS, e_sl, e_slT, e_slL, e_finT, e_finN, e_index, e_idxT, e_idxL, e_mIx, e_ixST, e_ixSL, e_mtL, e_w, e_w1, e_w2, e_wE, e_wZ, e_itK, e_itT, e_itL, e_itT2, e_itL2, e_lc, e_for, e_wipe0, e_wipe, e_okI, e_okR, e_gSb, List.getElem?_cons_zero, List.getElem?_cons_succ, List.set_cons_zero, List.set_cons_succ, e_getD, e_get1, e_lockK, e_dlockK, e_wItemsK, e_wKeysK, e_getR, e_inR, e_ninR, e_dictP, e_sortTs, e_maxTs, e_pop, e_lenSetL, e_gSbK]
    refine take_ev (n := kb + 3799) (pot_at lt po4) (by decide) (by decide) fun t3 o5 lt3 po5 => ?_
    rw [pot_app lt]
    try simp only [e_var, e_C, e_op, e_neg, e_isN, e_notN, e_and, e_or, e_not, e_test, e_tAnd, e_tOr, e_tNot, e_tYes, e_if, e_aNil, e_aCons, e_tup, e_lst, e_lstN, e_len0, e_len1, e_len2, e_len3, e_len4, e_len5, e_cb, e_on1, e_on2, e_onI, e_onB, e_onO, e_onO0, e_onOO, e_I0, e_I, e_add, e_addT, e_addS, e_addL, e_addLR, e_addRL, e_addRR, e_mul, e_mulL, e_mulT, e_rev, e_revT, e_ix, e_eqI, e_eqS, e_eqB, e_neI, e_neS, e_neB, e_ltI, e_chain, e_len, e_abs, e_2I, e_tuple1, e_tuple2, e_tuple3, e_listT, e_listN, e_allR, e_seqT, e_seqK, e_seqL, e_isi, e_isB, e_notB, e_truth, e_next, e_drop, e_ret, e_retN, e_ifS, e_set, e_asg, e_par, e_nm, e_gsN, e_gsC, e_gTpK, e_gTpL, e_sum, e_maxL, e_minL, e_maxDef, e_int, e_intB, e_aug, e_on3, e_par3, e_newK, e_getK, e_keyI, e_keyS, e_inK, e_ninK, e_putK, e_lenK, e_lstS, e_seqX, e_gTpT, e_oN, e_oS, e_sl, e_slT, e_slL, e_finT, e_finN, e_index, e_idxT, e_idxL, e_mIx, e_ixST, e_ixSL, e_mtL, e_w, e_w1, e_w2, e_wE, e_wZ, e_itK, e_itT, e_itL, e_itT2, e_itL2, e_lc, e_for, e_wipe0, e_wipe, e_okI, e_okR, e_gSb, List.getElem?_cons_zero, List.getElem?_cons_succ, List.set_cons_zero, List.set_cons_succ, e_getD, e_get1, e_lockK, e_dlockK, e_wItemsK, e_wKeysK, e_getR, e_inR, e_ninR, e_dictP, e_sortTs, e_maxTs, e_pop, e_lenSetL, e_gSbK]
    by_cases a : t3 = 0
    · rw [decide_eq_true (by omega), if_pos rfl]
      unfold dLRg1
      try simp only [e_var, e_C, e_op, e_neg, e_isN, e_notN, e_and, e_or, e_not, e_test, e_tAnd, e_tOr, e_tNot, e_tYes, e_if, e_aNil, e_aCons, e_tup, e_lst, e_lstN, e_len0, e_len1, e_len2, e_len3, e_len4, e_len5, e_cb, e_on1, e_on2, e_onI, e_onB, e_onO, e_onO0, e_onOO, e_I0, e_I, e_add, e_addT, e_addS, e_addL, e_addLR, e_addRL, e_addRR, e_mul, e_mulL, e_mulT, e_rev, e_revT, e_ix, e_eqI, e_eqS, e_eqB, e_neI, e_neS, e_neB, e_ltI, e_chain, e_len, e_abs, e_2I, e_tuple1, e_tuple2, e_tuple3, e_listT, e_listN, e_allR, e_seqT, e_seqK, e_seqL, e_isi, e_isB, e_notB, e_truth, e_next, e_drop, e_ret, e_retN, e_ifS, e_set, e_asg, e_par, e_nm, e_gsN, e_gsC, e_gTpK, e_gTpL, e_sum, e_maxL, e_minL, e_maxDef, e_int, e_intB, e_aug, e_on3, e_par3, e_newK, e_getK, e_keyI, e_keyS, e_inK, e_ninK, e_putK, e_lenK, e_lstS, e_seqX, e_gTpT, e_oN, e_oS, e_sl, e_slT, e_slL, e_finT, e_finN, e_index, e_idxT, e_idxL, e_mIx, e_ixST, e_ixSL, e_mtL, e_w, e_w1, e_w2, e_wE, e_wZ, e_itK, e_itT, e_itL, e_itT2, e_itL2, e_lc, e_for, e_wipe0, e_wipe, e_okI, e_okR, e_gSb, List.getElem?_cons_zero, List.getElem?_cons_succ, List.set_cons_zero, List.set_cons_succ, e_getD, e_get1, e_lockK, e_dlockK, e_wItemsK, e_wKeysK, e_getR, e_inR, e_ninR, e_dictP, e_sortTs, e_maxTs, e_pop, e_lenSetL, e_gSbK]
      refine ⟨RgOk.of_le (by decide) (by omega) (by decide) (by omega), ?_⟩
      have eh : cutD (rgD 0 m) none (some ((n : Nat) : Int)) = (List.range (min n m)).map fun k : Nat => D.int (k : Nat) := by
        rw [cutH]
        unfold rgD
        rw [← List.map_take, List.take_range]
        simp
      try simp only [e_var, e_C, e_op, e_neg, e_isN, e_notN, e_and, e_or, e_not, e_test, e_tAnd, e_tOr, e_tNot, e_tYes, e_if, e_aNil, e_aCons, e_tup, e_lst, e_lstN, e_len0, e_len1, e_len2, e_len3, e_len4, e_len5, e_cb, e_on1, e_on2, e_onI, e_onB, e_onO, e_onO0, e_onOO, e_I0, e_I, e_add, e_addT, e_addS, e_addL, e_addLR, e_addRL, e_addRR, e_mul, e_mulL, e_mulT, e_rev, e_revT, e_ix, e_eqI, e_eqS, e_eqB, e_neI, e_neS, e_neB, e_ltI, e_chain, e_len, e_abs, e_2I, e_tuple1, e_tuple2, e_tuple3, e_listT, e_listN, e_allR, e_seqT, e_seqK, e_seqL, e_isi, e_isB, e_notB, e_truth, e_next, e_drop, e_ret, e_retN, e_ifS, e_set, e_asg, e_par, e_nm, e_gsN, e_gsC, e_gTpK, e_gTpL, e_sum, e_maxL, e_minL, e_maxDef, e_int, e_intB, e_aug, e_on3, e_par3, e_newK, e_getK, e_keyI, e_keyS, e_inK, e_ninK, e_putK, e_lenK, e_lstS, e_seqX, e_gTpT, e_oN, e_oS, e_sl, e_slT, e_slL, e_finT, e_finN, e_index, e_idxT, e_idxL, e_mIx, e_ixST, e_ixSL, e_mtL, e_w, e_w1, e_w2, e_wE, e_wZ, e_itK, e_itT, e_itL, e_itT2, e_itL2, e_lc, e_for, e_wipe0, e_wipe, e_okI, e_okR, e_gSb, List.getElem?_cons_zero, List.getElem?_cons_succ, List.set_cons_zero, List.set_cons_succ, e_getD, e_get1, e_lockK, e_dlockK, e_wItemsK, e_wKeysK, e_getR, e_inR, e_ninR, e_dictP, e_sortTs, e_maxTs, e_pop, e_lenSetL, e_gSbK, Int.toNat_natCast, eh]
      refine main (List.range (min n m)) o5 ⟨List.nodup_range, fun k hk => ?_, by rw [List.length_range]; omega⟩ (po5.less (by omega)) _ _ _ _ _
      have := List.mem_range.mp hk
      omega
    · rw [decide_eq_false (by omega), if_neg (by decide)]
      exact main h o5 H (po5.less (by omega)) _ _ _ _ _
  · rintro r st' ⟨o, js, x1, x2, x3, x4, x5, x6, x7, x8, x9, x10, x11, rfl, rfl, po⟩
    try simp only [e_var, e_C, e_op, e_neg, e_isN, e_notN, e_and, e_or, e_not, e_test, e_tAnd, e_tOr, e_tNot, e_tYes, e_if, e_aNil, e_aCons, e_tup, e_lst, e_lstN, e_len0, e_len1, e_len2, e_len3, e_len4, e_len5, e_cb, e_on1, e_on2, e_onI, e_onB, e_onO, e_onO0, e_onOO, e_I0, e_I, e_add, e_addT, e_addS, e_addL, e_addLR, e_addRL, e_addRR, e_mul, e_mulL, e_mulT, e_rev, e_revT, e_ix, e_eqI, e_eqS, e_eqB, e_neI, e_neS, e_neB, e_ltI, e_chain, e_len, e_abs, e_2I, e_tuple1, e_tuple2, e_tuple3, e_listT, e_listN, e_allR, e_seqT, e_seqK, e_seqL, e_isi, e_isB, e_notB, e_truth, e_next, e_drop, e_ret, e_retN, e_ifS, e_set, e_asg, e_par, e_nm, e_gsN, e_gsC, e_gTpK, e_gTpL, e_sum, e_maxL, e_minL, e_maxDef, e_int, e_intB, e_aug, e_on3, e_par3, e_newK, e_getK, e_keyI, e_keyS, e_inK, e_ninK, e_putK, e_lenK, e_lstS, e_seqX, e_gTpT, e_oN, e_oS, e_sl, e_slT, e_slL, e_finT, e_finN, e_index, e_idxT, e_idxL, e_mIx, e_ixST, e_ixSL, e_mtL, e_w, e_w1, e_w2, e_wE, e_wZ, e_itK, e_itT, e_itL, e_itT2, e_itL2, e_lc, e_for, e_wipe0, e_wipe, e_okI, e_okR, e_gSb, List.getElem?_cons_zero, List.getElem?_cons_succ, List.set_cons_zero, List.set_cons_succ, e_getD, e_get1, e_lockK, e_dlockK, e_wItemsK, e_wKeysK, e_getR, e_inR, e_ninR, e_dictP, e_sortTs, e_maxTs, e_pop, e_lenSetL, e_gSbK]
    exact rt_drop List.length_set (by simp [DL.clo]) (cs_set po) (q o (po.less (by omega)))
end DL
namespace DL.K68
open PySem PySem.Spec PyProof.Rows L2 LamX PySem.W SL
open DL
def topS (i : Nat) : Stmt := PySem.Challenge.pw_samelayout_k68_whole_looking_up.main.body.getD i (.Pass ⟨0, 0, 0, 0⟩)
abbrev s_insert : Stmt := topS 7
abbrev n_insert : List Str := ["probes", "rule", "layout", "key", "slots", "path", "asking", "slot"]
theorem sc_insert : FnScope n_insert ["probes", "rule", "layout", "key"] (defScope s_insert) := ⟨rfl, rfl, rfl, by decide +kernel, rfl, by decide +kernel, by decide +kernel⟩
abbrev s_layout_of : Stmt := topS 8
abbrev n_layout_of : List Str := ["probes", "rule", "history", "layout", "key"]
theorem sc_layout_of : FnScope n_layout_of ["probes", "rule", "history"] (defScope s_layout_of) := ⟨rfl, rfl, rfl, by decide +kernel, rfl, by decide +kernel, by decide +kernel⟩
abbrev s_ring_at : Stmt := topS 10
abbrev n_ring_at : List Str := ["rule", "slot", "table", "a", "b", "c"]
theorem sc_ring_at : FnScope n_ring_at ["rule", "slot"] (defScope s_ring_at) := ⟨rfl, rfl, rfl, by decide +kernel, rfl, by decide +kernel, by decide +kernel⟩
abbrev s_require_ordered : Stmt := topS 12
abbrev n_require_ordered : List Str := ["rule", "slot"]
theorem sc_require_ordered : FnScope n_require_ordered ["rule"] (defScope s_require_ordered) := ⟨rfl, rfl, rfl, by decide +kernel, rfl, by decide +kernel, by decide +kernel⟩
abbrev s_look_up : Stmt := topS 15
abbrev n_look_up : List Str := ["probes", "rule", "layout", "key", "reads", "slot"]
theorem sc_look_up : FnScope n_look_up ["probes", "rule", "layout", "key"] (defScope s_look_up) := ⟨rfl, rfl, rfl, by decide +kernel, rfl, by decide +kernel, by decide +kernel⟩
abbrev s__law_pot : Stmt := topS 17
abbrev n__law_pot : List Str := ["_law_script", "_law_k", "_law_cell", "_law_great"]
theorem sc__law_pot : FnScope n__law_pot ["_law_script", "_law_k"] (defScope s__law_pot) := ⟨rfl, rfl, rfl, by decide +kernel, rfl, by decide +kernel, by decide +kernel⟩
abbrev s__law_take : Stmt := topS 18
abbrev n__law_take : List Str := ["_law_pot_here", "_law_size", "_law_digit", "_law_prime", "_law_mixed_here"]
theorem sc__law_take : FnScope n__law_take ["_law_pot_here", "_law_size"] (defScope s__law_take) := ⟨rfl, rfl, rfl, by decide +kernel, rfl, by decide +kernel, by decide +kernel⟩
abbrev s__law_mixed : Stmt := topS 19
abbrev n__law_mixed : List Str := ["_law_pot_here", "_law_some", "_law_left", "_law_found"]
theorem sc__law_mixed : FnScope n__law_mixed ["_law_pot_here", "_law_some"] (defScope s__law_mixed) := ⟨rfl, rfl, rfl, by decide +kernel, rfl, by decide +kernel, by decide +kernel⟩
abbrev s__law_line : Stmt := topS 20
abbrev n__law_line : List Str := ["_law_size", "_law_begin", "_law_at"]
theorem sc__law_line : FnScope n__law_line ["_law_size", "_law_begin"] (defScope s__law_line) := ⟨rfl, rfl, rfl, by decide +kernel, rfl, by decide +kernel, by decide +kernel⟩
abbrev s__law_probe : Stmt := topS 21
abbrev n__law_probe : List Str := ["_law_pot_here", "_law_size"]
theorem sc__law_probe : FnScope n__law_probe ["_law_pot_here", "_law_size"] (defScope s__law_probe) := ⟨rfl, rfl, rfl, by decide +kernel, rfl, by decide +kernel, by decide +kernel⟩
abbrev s__law_ordered_table : Stmt := topS 22
abbrev n__law_ordered_table : List Str := ["_law_order", "_law_one"]
theorem sc__law_ordered_table : FnScope n__law_ordered_table ["_law_order"] (defScope s__law_ordered_table) := ⟨rfl, rfl, rfl, by decide +kernel, rfl, by decide +kernel, by decide +kernel⟩
abbrev s__law_late_tables : Stmt := topS 23
abbrev n__law_late_tables : List Str := ["_law_pot_here", "_law_some", "_law_spots", "_law_found", "_law_spot", "_law_ranked", "_law_order", "_law_at", "_law_late", "_law_drawn", "_law_one", "_law_probe_here"]
theorem sc__law_late_tables : FnScope n__law_late_tables ["_law_pot_here", "_law_some", "_law_spots"] (defScope s__law_late_tables) := ⟨rfl, rfl, rfl, by decide +kernel, rfl, by decide +kernel, by decide +kernel⟩
abbrev s__law_even_setting : Stmt := topS 24
abbrev n__law_even_setting : List Str := ["_law_pot_here", "_law_many", "_law_spots", "_law_some", "_law_one", "_law_spot"]
theorem sc__law_even_setting : FnScope n__law_even_setting ["_law_pot_here", "_law_many", "_law_spots"] (defScope s__law_even_setting) := ⟨rfl, rfl, rfl, by decide +kernel, rfl, by decide +kernel, by decide +kernel⟩
abbrev s__law_few : Stmt := topS 25
abbrev n__law_few : List Str := ["_law_pot_here", "_law_many", "_law_most"]
theorem sc__law_few : FnScope n__law_few ["_law_pot_here", "_law_many", "_law_most"] (defScope s__law_few) := ⟨rfl, rfl, rfl, by decide +kernel, rfl, by decide +kernel, by decide +kernel⟩
abbrev s__law_laid : Stmt := topS 26
abbrev n__law_laid : List Str := ["_law_some", "_law_tables", "_law_row", "_law_held", "_law_one", "_law_asking", "_law_at", "_law_spot", "_law_other"]
theorem sc__law_laid : FnScope n__law_laid ["_law_some", "_law_tables", "_law_row"] (defScope s__law_laid) := ⟨rfl, rfl, rfl, by decide +kernel, rfl, by decide +kernel, by decide +kernel⟩
abbrev s__law_as_row : Stmt := topS 27
abbrev n__law_as_row : List Str := ["_law_held", "_law_spots", "_law_spot"]
theorem sc__law_as_row : FnScope n__law_as_row ["_law_held", "_law_spots"] (defScope s__law_as_row) := ⟨rfl, rfl, rfl, by decide +kernel, rfl, by decide +kernel, by decide +kernel⟩
abbrev s__law_reads : Stmt := topS 28
abbrev n__law_reads : List Str := ["_law_some", "_law_tables", "_law_held", "_law_one", "_law_at", "_law_spot"]
theorem sc__law_reads : FnScope n__law_reads ["_law_some", "_law_tables", "_law_held", "_law_one"] (defScope s__law_reads) := ⟨rfl, rfl, rfl, by decide +kernel, rfl, by decide +kernel, by decide +kernel⟩
abbrev s__law_absent_right : Stmt := topS 29
abbrev n__law_absent_right : List Str := ["_law_some", "_law_tables", "_law_row", "_law_held", "_law_one", "_law_reads_here", "_law_path"]
theorem sc__law_absent_right : FnScope n__law_absent_right ["_law_some", "_law_tables", "_law_row", "_law_held", "_law_one"] (defScope s__law_absent_right) := ⟨rfl, rfl, rfl, by decide +kernel, rfl, by decide +kernel, by decide +kernel⟩
abbrev s__law_right : Stmt := topS 30
abbrev n__law_right : List Str := ["_law_pot_here", "_law_turn", "_law_many", "_law_spots", "_law_some", "_law_tables", "_law_few_here", "_law_row", "_law_held", "_law_spot", "_law_one", "_law_others"]
theorem sc__law_right : FnScope n__law_right ["_law_pot_here"] (defScope s__law_right) := ⟨rfl, rfl, rfl, by decide +kernel, rfl, by decide +kernel, by decide +kernel⟩
abbrev s_law : Stmt := topS 31
abbrev n_law : List Str := ["_law_script", "_law_k"]
theorem sc_law : FnScope n_law ["_law_script"] (defScope s_law) := ⟨rfl, rfl, rfl, by decide +kernel, rfl, by decide +kernel, by decide +kernel⟩
structure Defs (K : Frag) (mg : Str → Option Value) (base : Heap) (T : List (Addr × Str)) : Prop where
  d_insert : ∃ f fd, Fun K "insert" "insert" s_insert f fd ∧ Binds K fd ["probes", "rule", "layout", "key"] [] ∧ mg "insert" = some (.ref f)
  d_layout_of : ∃ f fd, Fun K "layout_of" "layout_of" s_layout_of f fd ∧ Binds K fd ["probes", "rule", "history"] [] ∧ mg "layout_of" = some (.ref f)
  d_ring_at : ∃ f fd, Fun K "ring_at" "ring_at" s_ring_at f fd ∧ Binds K fd ["rule", "slot"] [] ∧ mg "ring_at" = some (.ref f)
  d_require_ordered : ∃ f fd, Fun K "require_ordered" "require_ordered" s_require_ordered f fd ∧ Binds K fd ["rule"] [] ∧ mg "require_ordered" = some (.ref f)
  d_look_up : ∃ f fd, Fun K "look_up" "look_up" s_look_up f fd ∧ Binds K fd ["probes", "rule", "layout", "key"] [] ∧ mg "look_up" = some (.ref f)
  d__law_pot : ∃ f fd, Fun K "_law_pot" "_law_pot" s__law_pot f fd ∧ Binds K fd ["_law_script", "_law_k"] [] ∧ mg "_law_pot" = some (.ref f)
  d__law_take : ∃ f fd, Fun K "_law_take" "_law_take" s__law_take f fd ∧ Binds K fd ["_law_pot_here", "_law_size"] [] ∧ mg "_law_take" = some (.ref f)
  d__law_mixed : ∃ f fd, Fun K "_law_mixed" "_law_mixed" s__law_mixed f fd ∧ Binds K fd ["_law_pot_here", "_law_some"] [] ∧ mg "_law_mixed" = some (.ref f)
  d__law_line : ∃ f fd, Fun K "_law_line" "_law_line" s__law_line f fd ∧ Binds K fd ["_law_size", "_law_begin"] [] ∧ mg "_law_line" = some (.ref f)
  d__law_probe : ∃ f fd, Fun K "_law_probe" "_law_probe" s__law_probe f fd ∧ Binds K fd ["_law_pot_here", "_law_size"] [] ∧ mg "_law_probe" = some (.ref f)
  d__law_ordered_table : ∃ f fd, Fun K "_law_ordered_table" "_law_ordered_table" s__law_ordered_table f fd ∧ Binds K fd ["_law_order"] [] ∧ mg "_law_ordered_table" = some (.ref f)
  d__law_late_tables : ∃ f fd, Fun K "_law_late_tables" "_law_late_tables" s__law_late_tables f fd ∧ Binds K fd ["_law_pot_here", "_law_some", "_law_spots"] [] ∧ mg "_law_late_tables" = some (.ref f)
  d__law_even_setting : ∃ f fd, Fun K "_law_even_setting" "_law_even_setting" s__law_even_setting f fd ∧ Binds K fd ["_law_pot_here", "_law_many", "_law_spots"] [] ∧ mg "_law_even_setting" = some (.ref f)
  d__law_few : ∃ f fd, Fun K "_law_few" "_law_few" s__law_few f fd ∧ Binds K fd ["_law_pot_here", "_law_many", "_law_most"] [] ∧ mg "_law_few" = some (.ref f)
  d__law_laid : ∃ f fd, Fun K "_law_laid" "_law_laid" s__law_laid f fd ∧ Binds K fd ["_law_some", "_law_tables", "_law_row"] [] ∧ mg "_law_laid" = some (.ref f)
  d__law_as_row : ∃ f fd, Fun K "_law_as_row" "_law_as_row" s__law_as_row f fd ∧ Binds K fd ["_law_held", "_law_spots"] [] ∧ mg "_law_as_row" = some (.ref f)
  d__law_reads : ∃ f fd, Fun K "_law_reads" "_law_reads" s__law_reads f fd ∧ Binds K fd ["_law_some", "_law_tables", "_law_held", "_law_one"] [] ∧ mg "_law_reads" = some (.ref f)
  d__law_absent_right : ∃ f fd, Fun K "_law_absent_right" "_law_absent_right" s__law_absent_right f fd ∧ Binds K fd ["_law_some", "_law_tables", "_law_row", "_law_held", "_law_one"] [] ∧ mg "_law_absent_right" = some (.ref f)
  d__law_right : ∃ f fd, Fun K "_law_right" "_law_right" s__law_right f fd ∧ Binds K fd ["_law_pot_here"] [] ∧ mg "_law_right" = some (.ref f)
  d_law : ∃ f fd, Fun K "law" "law" s_law f fd ∧ Binds K fd ["_law_script"] [] ∧ mg "law" = some (.ref f)
  c_EMPTY : ∃ u, mg "EMPTY" = some u ∧ RelV (.int (-1)) u
  c_NO_SLOT : ∃ u, mg "NO_SLOT" = some u ∧ RelV (.int (-1)) u
  z_abs : mg "abs" = none
  z_all : mg "all" = none
  z_enumerate : mg "enumerate" = none
  z_len : mg "len" = none
  z_list : mg "list" = none
  z_max : mg "max" = none
  z_min : mg "min" = none
  z_range : mg "range" = none
  z_repr : mg "repr" = none
  z_sorted : mg "sorted" = none
  z_tuple : mg "tuple" = none
section
variable {P : Program} {w : World} {K : Frag} {mg : Str → Option Value} {base : Heap} {T : List (Addr × Str)}
def Cal (P : Program) (w : World) (K : Frag) (mg : Str → Option Value) (base : Heap) (T : List (Addr × Str)) (x : Str) (st : Stmt) (k : Nat) (ps : List Str) (g : DRs) : Prop := ∃ f fd, Fun K x x st f fd ∧ Binds K fd ps [] ∧ mg x = some (.ref f) ∧ FnD P w K mg base T k f fd ps g
theorem ok_insert (D : Defs K mg base T) {g_ : DRs} (ar : ∀ ds st Q, g_ ds st Q → ds.length = 4) (sem : ∀ ds st Q, g_ ds st Q → F_insert { nx := fun _ st' => Rt st Q .non st', rt := Rt st Q } (startD 8 ds) st) : Cal P w K mg base T "insert" s_insert 1 ["probes", "rule", "layout", "key"] g_ := by
  obtain ⟨f, fd, F, b, m⟩ := D.d_insert
  obtain ⟨u_EMPTY, h_c_EMPTY, r_EMPTY⟩ := D.c_EMPTY
  exact ⟨f, fd, F, b, m, fnD_mk (k := 0) F sc_insert ar (fun cdv A outer s H E gd hr => (ds_cons (ds_if (dt_cmpR op_in_seq (opD_in false) (de_var (pv 3)) (de_var (pv 2)) (by rfl)) (ds_one ds_never) ds_nil) (ds_cons (ds_if (dt_cmpR op_notIn_seq (opD_in true) (de_globI (by rfl) h_c_EMPTY r_EMPTY) (de_var (pv 2)) (by rfl)) (ds_one ds_never) ds_nil) (ds_cons (ds_set (i := 4) sc_insert.nd rfl (.inl rfl) (de_callTy call_list_of callD_listN (by rfl) D.z_list (by decide +kernel) (da_cons (de_var (pv 2)) da_nil))) (ds_cons (ds_set (i := 5) sc_insert.nd rfl (.inl rfl) (de_lstN da_nil)) (ds_cons (ds_set (i := 6) sc_insert.nd rfl (.inl rfl) (de_var (pv 3))) (ds_cons (ds_set (i := 7) sc_insert.nd rfl (.inl rfl) (de_ix (de_ix (de_var (pv 0)) (de_var (pv 3)) (fun _ _ => rfl)) (de_int) (fun _ _ => rfl))) (ds_cons (ds_while PassesOwn.never (dt_cmpR (op_ne2 hr.units) opD_ne (de_ix (de_var (pv 4)) (de_var (pv 7)) (fun _ _ => rfl)) (de_globI (by rfl) h_c_EMPTY r_EMPTY) (nomark _)) (ds_cons (ds_if (dt_cmpR op_notIn_seq (opD_in true) (de_var (pv 6)) (de_ix (de_ix (de_var (pv 1)) (de_var (pv 7)) (fun _ _ => rfl)) (de_ix (de_var (pv 4)) (de_var (pv 7)) (fun _ _ => rfl)) (fun _ _ => rfl)) (by rfl)) (ds_cons (ds_expr (de_bmL PySem.F.slot_list_append PySem.F.type_list_append mt_append mtD_append (de_var (pv 5)) (da_cons (de_tup (da_cons (de_var (pv 6)) (da_cons (de_var (pv 7)) da_nil))) da_nil))) (ds_one (ds_asg (vs := [6]) (de_tup (da_cons (de_ix (de_var (pv 4)) (de_var (pv 7)) (fun _ _ => rfl)) (da_cons (de_var (pv 6)) da_nil))) (dg_tup rfl (dgs_cons (dg_name (i := 6) sc_insert.nd rfl (.inl rfl) (by decide)) (dgs_cons (dg_sub (de_var (pv 4)) (de_var (pv 7))) dgs_nil)))))) ds_nil) (ds_one (ds_set (i := 7) sc_insert.nd rfl (.inl rfl) (de_ix (de_ix (de_var (pv 0)) (de_var (pv 6)) (fun _ _ => rfl)) (de_add (de_index (de_ix (de_var (pv 0)) (de_var (pv 6)) (fun _ _ => rfl)) (da_cons (de_var (pv 7)) da_nil)) (de_int)) (fun _ _ => rfl)))))) (ds_cons (ds_asg (vs := []) (de_var (pv 6)) (dg_sub (de_var (pv 4)) (de_var (pv 7)))) (ds_cons (ds_expr (de_bmL PySem.F.slot_list_append PySem.F.type_list_append mt_append mtD_append (de_var (pv 5)) (da_cons (de_tup (da_cons (de_var (pv 6)) (da_cons (de_var (pv 7)) da_nil))) da_nil))) (ds_one (ds_ret (de_tup (da_cons (de_callTy call_tup2 callD_tup (by rfl) D.z_tuple (by decide +kernel) (da_cons (de_var (pv 4)) da_nil)) (da_cons (de_callTy call_tup2 callD_tup (by rfl) D.z_tuple (by decide +kernel) (da_cons (de_var (pv 5)) da_nil)) da_nil))))))))))))))) sem⟩
theorem ok_layout_of (D : Defs K mg base T) {g_insert : DRs} (C_insert : Cal P w K mg base T "insert" s_insert 1 ["probes", "rule", "layout", "key"] g_insert) {g_ : DRs} (ar : ∀ ds st Q, g_ ds st Q → ds.length = 3) (sem : ∀ ds st Q, g_ ds st Q → F_layout_of g_insert { nx := fun _ st' => Rt st Q .non st', rt := Rt st Q } (startD 5 ds) st) : Cal P w K mg base T "layout_of" s_layout_of 2 ["probes", "rule", "history"] g_ := by
  obtain ⟨f, fd, F, b, m⟩ := D.d_layout_of
  obtain ⟨f_insert, fd_insert, F_insert_, b_insert, g_insert_at, G_insert⟩ := C_insert
  obtain ⟨u_EMPTY, h_c_EMPTY, r_EMPTY⟩ := D.c_EMPTY
  exact ⟨f, fd, F, b, m, fnD_mk (k := 1) F sc_layout_of ar (fun cdv A outer s H E gd hr => (ds_cons (ds_set (i := 3) sc_layout_of.nd rfl (.inl rfl) (de_mul (de_tup (da_cons (de_globI (by rfl) h_c_EMPTY r_EMPTY) da_nil)) (de_callB call_len_seq callD_len (by rfl) D.z_len PySem.boot_len (da_cons (de_var (pv 1)) da_nil)))) (ds_cons (ds_for (vs := [4]) PassesOwn.never rfl (di_seq (de_var (pv 2))) (dg_name (i := 4) sc_layout_of.nd rfl (.inl rfl) (by decide)) (ds_one (ds_set (i := 3) sc_layout_of.nd rfl (.inl rfl) (de_ix (de_call G_insert gd (hr.mono (by omega)) (by rfl) g_insert_at F_insert_.kp b_insert (da_cons (de_var (pv 0)) (da_cons (de_var (pv 1)) (da_cons (de_var (pv 3)) (da_cons (de_var (pv 4)) da_nil))))) (de_int) (fun _ _ => rfl))))) (ds_one (ds_ret (de_var (pv 3))))))) sem⟩
theorem ok_ring_at (D : Defs K mg base T) {g_ : DRs} (ar : ∀ ds st Q, g_ ds st Q → ds.length = 2) (sem : ∀ ds st Q, g_ ds st Q → F_ring_at { nx := fun _ st' => Rt st Q .non st', rt := Rt st Q } (startD 6 ds) st) : Cal P w K mg base T "ring_at" s_ring_at 1 ["rule", "slot"] g_ := by
  obtain ⟨f, fd, F, b, m⟩ := D.d_ring_at
  exact ⟨f, fd, F, b, m, fnD_mk (k := 0) F sc_ring_at ar (fun cdv A outer s H E gd hr => (ds_cons (ds_set (i := 2) sc_ring_at.nd rfl (.inl rfl) (de_ix (de_var (pv 0)) (de_var (pv 1)) (fun _ _ => rfl))) (ds_cons (ds_for (vs := [3]) PassesOwn.never rfl (di_range1 (by rfl) D.z_range (da_cons (de_callB call_len_seq callD_len (by rfl) D.z_len PySem.boot_len (da_cons (de_var (pv 2)) da_nil)) da_nil)) (dg_name (i := 3) sc_ring_at.nd rfl (.inl rfl) (by decide)) (ds_one (ds_for (vs := [4]) PassesOwn.never rfl (di_seq (de_ix (de_var (pv 2)) (de_var (pv 3)) (fun _ _ => rfl))) (dg_name (i := 4) sc_ring_at.nd rfl (.inl rfl) (by decide)) (ds_one (ds_for (vs := [5]) PassesOwn.never rfl (di_seq (de_ix (de_var (pv 2)) (de_var (pv 4)) (fun _ _ => rfl))) (dg_name (i := 5) sc_ring_at.nd rfl (.inl rfl) (by decide)) (ds_one (ds_if (dt_cmpR op_in_seq (opD_in false) (de_var (pv 3)) (de_ix (de_var (pv 2)) (de_var (pv 5)) (fun _ _ => rfl)) (by rfl)) (ds_one (ds_ret (de_tup (da_cons (de_var (pv 3)) (da_cons (de_var (pv 4)) (da_cons (de_var (pv 5)) da_nil)))))) ds_nil))))))) (ds_one (ds_ret (de_non)))))) sem⟩
theorem ok_require_ordered (D : Defs K mg base T) {g_ring_at : DRs} (C_ring_at : Cal P w K mg base T "ring_at" s_ring_at 1 ["rule", "slot"] g_ring_at) {g_ : DRs} (ar : ∀ ds st Q, g_ ds st Q → ds.length = 1) (sem : ∀ ds st Q, g_ ds st Q → F_require_ordered g_ring_at { nx := fun _ st' => Rt st Q .non st', rt := Rt st Q } (startD 2 ds) st) : Cal P w K mg base T "require_ordered" s_require_ordered 2 ["rule"] g_ := by
  obtain ⟨f, fd, F, b, m⟩ := D.d_require_ordered
  obtain ⟨f_ring_at, fd_ring_at, F_ring_at_, b_ring_at, g_ring_at_at, G_ring_at⟩ := C_ring_at
  exact ⟨f, fd, F, b, m, fnD_mk (k := 1) F sc_require_ordered ar (fun cdv A outer s H E gd hr => (ds_one (ds_for (vs := [1]) PassesOwn.never rfl (di_range1 (by rfl) D.z_range (da_cons (de_callB call_len_seq callD_len (by rfl) D.z_len PySem.boot_len (da_cons (de_var (pv 0)) da_nil)) da_nil)) (dg_name (i := 1) sc_require_ordered.nd rfl (.inl rfl) (by decide)) (ds_one (ds_if (dt_notN (de_call G_ring_at gd (hr.mono (by omega)) (by rfl) g_ring_at_at F_ring_at_.kp b_ring_at (da_cons (de_var (pv 0)) (da_cons (de_var (pv 1)) da_nil)))) (ds_one ds_never) ds_nil))))) sem⟩
theorem ok_look_up (D : Defs K mg base T) {g_require_ordered : DRs} (C_require_ordered : Cal P w K mg base T "require_ordered" s_require_ordered 2 ["rule"] g_require_ordered) {g_ : DRs} (ar : ∀ ds st Q, g_ ds st Q → ds.length = 4) (sem : ∀ ds st Q, g_ ds st Q → F_look_up g_require_ordered { nx := fun _ st' => Rt st Q .non st', rt := Rt st Q } (startD 6 ds) st) : Cal P w K mg base T "look_up" s_look_up 3 ["probes", "rule", "layout", "key"] g_ := by
  obtain ⟨f, fd, F, b, m⟩ := D.d_look_up
  obtain ⟨f_require_ordered, fd_require_ordered, F_require_ordered_, b_require_ordered, g_require_ordered_at, G_require_ordered⟩ := C_require_ordered
  obtain ⟨u_EMPTY, h_c_EMPTY, r_EMPTY⟩ := D.c_EMPTY
  obtain ⟨u_NO_SLOT, h_c_NO_SLOT, r_NO_SLOT⟩ := D.c_NO_SLOT
  exact ⟨f, fd, F, b, m, fnD_mk (k := 2) F sc_look_up ar (fun cdv A outer s H E gd hr => (ds_cons (ds_expr (de_call G_require_ordered gd (hr.mono (by omega)) (by rfl) g_require_ordered_at F_require_ordered_.kp b_require_ordered (da_cons (de_var (pv 1)) da_nil))) (ds_cons (ds_for (vs := [4, 5]) PassesOwn.never rfl (di_enumK (k := 1) (by decide) (by rfl) D.z_enumerate (da_cons (de_ix (de_var (pv 0)) (de_var (pv 3)) (fun _ _ => rfl)) da_nil)) (dg_tup rfl (dgs_cons (dg_name (i := 4) sc_look_up.nd rfl (.inl rfl) (by decide)) (dgs_cons (dg_name (i := 5) sc_look_up.nd rfl (.inl rfl) (by decide)) dgs_nil))) (ds_cons (ds_if (dt_cmpR (op_eq2 hr.units) opD_eq (de_ix (de_var (pv 2)) (de_var (pv 5)) (fun _ _ => rfl)) (de_var (pv 3)) (nomark _)) (ds_one (ds_ret (de_tup (da_cons (de_var (pv 5)) (da_cons (de_var (pv 4)) da_nil))))) ds_nil) (ds_one (ds_if (PW.pt (dw_or (dt_cmpR (op_eq2 hr.units) opD_eq (de_ix (de_var (pv 2)) (de_var (pv 5)) (fun _ _ => rfl)) (de_globI (by rfl) h_c_EMPTY r_EMPTY) (nomark _)) (dw_or1 (dt_cmpR op_in_seq (opD_in false) (de_ix (de_var (pv 2)) (de_var (pv 5)) (fun _ _ => rfl)) (de_ix (de_ix (de_var (pv 1)) (de_var (pv 5)) (fun _ _ => rfl)) (de_var (pv 3)) (fun _ _ => rfl)) (by rfl))))) (ds_one (ds_ret (de_tup (da_cons (de_globI (by rfl) h_c_NO_SLOT r_NO_SLOT) (da_cons (de_var (pv 4)) da_nil))))) ds_nil)))) (ds_one (ds_ret (de_tup (da_cons (de_globI (by rfl) h_c_NO_SLOT r_NO_SLOT) (da_cons (de_callB call_len_seq callD_len (by rfl) D.z_len PySem.boot_len (da_cons (de_var (pv 2)) da_nil)) da_nil)))))))) sem⟩
theorem ok__law_pot (D : Defs K mg base T) {g_ : DRs} (ar : ∀ ds st Q, g_ ds st Q → ds.length = 2) (sem : ∀ ds st Q, g_ ds st Q → F__law_pot { nx := fun _ st' => Rt st Q .non st', rt := Rt st Q } (startD 4 ds) st) : Cal P w K mg base T "_law_pot" s__law_pot 1 ["_law_script", "_law_k"] g_ := by
  obtain ⟨f, fd, F, b, m⟩ := D.d__law_pot
  exact ⟨f, fd, F, b, m, fnD_mk (k := 0) F sc__law_pot ar (fun cdv A outer s H E gd hr => (ds_cons (ds_set (i := 2) sc__law_pot.nd rfl (.inl rfl) (de_if (dt_cmpR (op_ltG (Nat.lt_of_le_of_lt (Nat.le_add_right _ _) hr.units)) opD_ltG (de_var (pv 1)) (de_callB call_len_seq callD_len (by rfl) D.z_len PySem.boot_len (da_cons (de_var (pv 0)) da_nil)) (nomark _)) (de_ix (de_var (pv 0)) (de_var (pv 1)) (fun _ _ => rfl)) (de_add (de_mul (de_int) (de_var (pv 1))) (de_int)))) (ds_cons (ds_set (i := 3) sc__law_pot.nd rfl (.inl rfl) (de_if (dt_cmpR op_ge (opD_I0 fun _ _ _ _ => .bl _) (de_callB call_abs callD_abs (by rfl) D.z_abs (by decide +kernel) (da_cons (de_var (pv 2)) da_nil)) (de_pow (de_int) (de_int)) (nomark _)) (de_mod (de_callB call_abs callD_abs (by rfl) D.z_abs (by decide +kernel) (da_cons (de_var (pv 2)) da_nil)) (de_pow (de_pow (de_int) (de_int)) (de_int))) (de_int))) (ds_one (ds_ret (de_lstN (da_cons (de_var (pv 3)) (da_cons (de_mod (de_add (de_add (de_mul (de_mod (de_var (pv 2)) (de_int)) (de_int)) (de_mul (de_mul (de_int) (de_var (pv 1))) (de_var (pv 1)))) (de_int)) (de_int)) (da_cons (de_int) da_nil))))))))) sem⟩
theorem ok__law_take (D : Defs K mg base T) {g_ : DRs} (ar : ∀ ds st Q, g_ ds st Q → ds.length = 2) (sem : ∀ ds st Q, g_ ds st Q → F__law_take { nx := fun _ st' => Rt st Q .non st', rt := Rt st Q } (startD 5 ds) st) : Cal P w K mg base T "_law_take" s__law_take 1 ["_law_pot_here", "_law_size"] g_ := by
  obtain ⟨f, fd, F, b, m⟩ := D.d__law_take
  exact ⟨f, fd, F, b, m, fnD_mk (k := 0) F sc__law_take ar (fun cdv A outer s H E gd hr => (ds_cons (ds_if (dt_cmpR op_gt (opD_I0 fun _ _ _ _ => .bl _) (de_ix (de_var (pv 0)) (de_int) (fun _ _ => rfl)) (de_int) (nomark _)) (ds_cons (ds_set (i := 2) sc__law_take.nd rfl (.inl rfl) (de_mod (de_ix (de_var (pv 0)) (de_int) (fun _ _ => rfl)) (de_var (pv 1)))) (ds_cons (ds_asg (vs := []) (de_div (de_ix (de_var (pv 0)) (de_int) (fun _ _ => rfl)) (de_var (pv 1))) (dg_sub (de_var (pv 0)) (de_int))) (ds_one (ds_ret (de_var (pv 2)))))) ds_nil) (ds_cons (ds_asg (vs := []) (de_add (de_ix (de_var (pv 0)) (de_int) (fun _ _ => rfl)) (de_int)) (dg_sub (de_var (pv 0)) (de_int))) (ds_cons (ds_set (i := 3) sc__law_take.nd rfl (.inl rfl) (de_ix (de_lst (da_cons (de_int) (da_cons (de_int) (da_cons (de_int) (da_cons (de_int) (da_cons (de_int) da_nil)))))) (de_mod (de_ix (de_var (pv 0)) (de_int) (fun _ _ => rfl)) (de_int)) (fun _ _ => rfl))) (ds_cons (ds_set (i := 4) sc__law_take.nd rfl (.inl rfl) (de_mod (de_pow (de_add (de_add (de_ix (de_var (pv 0)) (de_int) (fun _ _ => rfl)) (de_mul (de_mul (de_int) (de_ix (de_var (pv 0)) (de_int) (fun _ _ => rfl))) (de_ix (de_var (pv 0)) (de_int) (fun _ _ => rfl)))) (de_int)) (de_int)) (de_var (pv 3)))) (ds_one (ds_ret (de_mod (de_div (de_mod (de_mul (de_var (pv 4)) (de_add (de_mod (de_var (pv 4)) (de_int)) (de_mul (de_int) (de_ix (de_var (pv 0)) (de_int) (fun _ _ => rfl))))) (de_int)) (de_int)) (de_var (pv 1)))))))))) sem⟩
theorem ok__law_mixed (D : Defs K mg base T) {g__law_take : DRs} (C__law_take : Cal P w K mg base T "_law_take" s__law_take 1 ["_law_pot_here", "_law_size"] g__law_take) {g_ : DRs} (ar : ∀ ds st Q, g_ ds st Q → ds.length = 2) (sem : ∀ ds st Q, g_ ds st Q → F__law_mixed g__law_take { nx := fun _ st' => Rt st Q .non st', rt := Rt st Q } (startD 4 ds) st) : Cal P w K mg base T "_law_mixed" s__law_mixed 2 ["_law_pot_here", "_law_some"] g_ := by
  obtain ⟨f, fd, F, b, m⟩ := D.d__law_mixed
  obtain ⟨f__law_take, fd__law_take, F__law_take_, b__law_take, g__law_take_at, G__law_take⟩ := C__law_take
  exact ⟨f, fd, F, b, m, fnD_mk (k := 1) F sc__law_mixed ar (fun cdv A outer s H E gd hr => (ds_cons (ds_par (i := 2) (j := 3) rfl sc__law_mixed.nd rfl rfl (by decide) rfl rfl (da_cons (de_callTy call_list_of callD_listN (by rfl) D.z_list (by decide +kernel) (da_cons (de_var (pv 1)) da_nil)) (da_cons (de_lstN da_nil) da_nil)) (by rfl)) (ds_cons (ds_while PassesOwn.never (dt_cmpR (op_ne2 hr.units) opD_ne (de_var (pv 2)) (de_lst da_nil) (nomark _)) (ds_one (ds_expr (de_bmL PySem.F.slot_list_append PySem.F.type_list_append mt_append mtD_append (de_var (pv 3)) (da_cons (de_bmL PySem.F.slot_list_pop PySem.F.type_list_pop mt_popAt mtD_popAt (de_var (pv 2)) (da_cons (de_call G__law_take gd (hr.mono (by omega)) (by rfl) g__law_take_at F__law_take_.kp b__law_take (da_cons (de_var (pv 0)) (da_cons (de_callB call_len_seq callD_len (by rfl) D.z_len PySem.boot_len (da_cons (de_var (pv 2)) da_nil)) da_nil))) da_nil)) da_nil))))) (ds_one (ds_ret (de_var (pv 3))))))) sem⟩
theorem ok__law_line (D : Defs K mg base T) {g_ : DRs} (ar : ∀ ds st Q, g_ ds st Q → ds.length = 2) (sem : ∀ ds st Q, g_ ds st Q → F__law_line { nx := fun _ st' => Rt st Q .non st', rt := Rt st Q } (startD 3 ds) st) : Cal P w K mg base T "_law_line" s__law_line 1 ["_law_size", "_law_begin"] g_ := by
  obtain ⟨f, fd, F, b, m⟩ := D.d__law_line
  exact ⟨f, fd, F, b, m, fnD_mk (k := 0) F sc__law_line ar (fun cdv A outer s H E gd hr => (ds_one (ds_ret (de_callTy call_tup2 callD_tup (by rfl) D.z_tuple (by decide +kernel) (da_cons (de_lcG (own := [("_law_at", 2)]) finT_ok rfl sc__law_line.nd (di_range1 (by rfl) D.z_range (da_cons (de_var (pv 0)) da_nil)) (blkOk_by (own := [("_law_at", 2)]) (N := n__law_line) (sc := defScope s__law_line) (by decide +kernel)) (fun _ _ _ _ _ => (dg_name (i := 2) sc__law_line.nd rfl (.inl rfl) (by decide))) (fun _ _ _ _ _ => dts_nil) (fun _ _ _ _ _ => (de_mod (de_add (de_var (pv 1)) (de_var (pv 2))) (de_var (pv 0))))) da_nil))))) sem⟩
theorem ok__law_probe (D : Defs K mg base T) {g__law_take : DRs} (C__law_take : Cal P w K mg base T "_law_take" s__law_take 1 ["_law_pot_here", "_law_size"] g__law_take) {g__law_mixed : DRs} (C__law_mixed : Cal P w K mg base T "_law_mixed" s__law_mixed 2 ["_law_pot_here", "_law_some"] g__law_mixed) {g__law_line : DRs} (C__law_line : Cal P w K mg base T "_law_line" s__law_line 1 ["_law_size", "_law_begin"] g__law_line) {g_ : DRs} (ar : ∀ ds st Q, g_ ds st Q → ds.length = 2) (sem : ∀ ds st Q, g_ ds st Q → F__law_probe g__law_take g__law_mixed g__law_line { nx := fun _ st' => Rt st Q .non st', rt := Rt st Q } (startD 2 ds) st) : Cal P w K mg base T "_law_probe" s__law_probe 3 ["_law_pot_here", "_law_size"] g_ := by
  obtain ⟨f, fd, F, b, m⟩ := D.d__law_probe
  obtain ⟨f__law_take, fd__law_take, F__law_take_, b__law_take, g__law_take_at, G__law_take⟩ := C__law_take
  obtain ⟨f__law_mixed, fd__law_mixed, F__law_mixed_, b__law_mixed, g__law_mixed_at, G__law_mixed⟩ := C__law_mixed
  obtain ⟨f__law_line, fd__law_line, F__law_line_, b__law_line, g__law_line_at, G__law_line⟩ := C__law_line
  exact ⟨f, fd, F, b, m, fnD_mk (k := 2) F sc__law_probe ar (fun cdv A outer s H E gd hr => (ds_cons (ds_if (dt_cmpR (op_eq2 hr.units) opD_eq (de_call G__law_take gd (hr.mono (by omega)) (by rfl) g__law_take_at F__law_take_.kp b__law_take (da_cons (de_var (pv 0)) (da_cons (de_int) da_nil))) (de_int) (nomark _)) (ds_one (ds_ret (de_call G__law_line gd (hr.mono (by omega)) (by rfl) g__law_line_at F__law_line_.kp b__law_line (da_cons (de_var (pv 1)) (da_cons (de_call G__law_take gd (hr.mono (by omega)) (by rfl) g__law_take_at F__law_take_.kp b__law_take (da_cons (de_var (pv 0)) (da_cons (de_var (pv 1)) da_nil))) da_nil))))) ds_nil) (ds_one (ds_ret (de_callTy call_tup2 callD_tup (by rfl) D.z_tuple (by decide +kernel) (da_cons (de_call G__law_mixed gd (hr.mono (by omega)) (by rfl) g__law_mixed_at F__law_mixed_.kp b__law_mixed (da_cons (de_var (pv 0)) (da_cons (de_listRg1 (.inl rfl) rfl (by rfl) D.z_list (by rfl) D.z_range (de_var (pv 1))) da_nil))) da_nil)))))) sem⟩
theorem ok__law_ordered_table (D : Defs K mg base T) {g_ : DRs} (ar : ∀ ds st Q, g_ ds st Q → ds.length = 1) (sem : ∀ ds st Q, g_ ds st Q → F__law_ordered_table { nx := fun _ st' => Rt st Q .non st', rt := Rt st Q } (startD 2 ds) st) : Cal P w K mg base T "_law_ordered_table" s__law_ordered_table 1 ["_law_order"] g_ := by
  obtain ⟨f, fd, F, b, m⟩ := D.d__law_ordered_table
  exact ⟨f, fd, F, b, m, fnD_mk (k := 0) F sc__law_ordered_table ar (fun cdv A outer s H E gd hr => (ds_one (ds_ret (de_callTy call_tup2 callD_tup (by rfl) D.z_tuple (by decide +kernel) (da_cons (de_lcG (own := [("_law_one", 1)]) finT_ok rfl sc__law_ordered_table.nd (di_range1 (by rfl) D.z_range (da_cons (de_callB call_len_seq callD_len (by rfl) D.z_len PySem.boot_len (da_cons (de_var (pv 0)) da_nil)) da_nil)) (blkOk_by (own := [("_law_one", 1)]) (N := n__law_ordered_table) (sc := defScope s__law_ordered_table) (by decide +kernel)) (fun _ _ _ _ _ => (dg_name (i := 1) sc__law_ordered_table.nd rfl (.inl rfl) (by decide))) (fun _ _ _ _ _ => dts_nil) (fun _ _ _ _ _ => (de_callTy call_tup2 callD_tup (by rfl) D.z_tuple (by decide +kernel) (da_cons (de_callB call_sort2 (callD_sort (.inl rfl)) (by rfl) D.z_sorted (by decide +kernel) (da_cons (de_slice (.inl rfl) (de_var (pv 0)) (do_some (de_add (de_index (de_var (pv 0)) (da_cons (de_var (pv 1)) da_nil)) (de_int))) do_none) da_nil)) da_nil)))) da_nil))))) sem⟩
theorem ok__law_late_tables (D : Defs K mg base T) {g__law_take : DRs} (C__law_take : Cal P w K mg base T "_law_take" s__law_take 1 ["_law_pot_here", "_law_size"] g__law_take) {g__law_ordered_table : DRs} (C__law_ordered_table : Cal P w K mg base T "_law_ordered_table" s__law_ordered_table 1 ["_law_order"] g__law_ordered_table) {g_ : DRs} (ar : ∀ ds st Q, g_ ds st Q → ds.length = 3) (sem : ∀ ds st Q, g_ ds st Q → F__law_late_tables g__law_take g__law_ordered_table { nx := fun _ st' => Rt st Q .non st', rt := Rt st Q } (startD 12 ds) st) : Cal P w K mg base T "_law_late_tables" s__law_late_tables 2 ["_law_pot_here", "_law_some", "_law_spots"] g_ := by
  obtain ⟨f, fd, F, b, m⟩ := D.d__law_late_tables
  obtain ⟨f__law_take, fd__law_take, F__law_take_, b__law_take, g__law_take_at, G__law_take⟩ := C__law_take
  obtain ⟨f__law_ordered_table, fd__law_ordered_table, F__law_ordered_table_, b__law_ordered_table, g__law_ordered_table_at, G__law_ordered_table⟩ := C__law_ordered_table
  exact ⟨f, fd, F, b, m, fnD_mk (k := 1) F sc__law_late_tables ar (fun cdv A outer s H E gd hr => (ds_cons (ds_set (i := 3) sc__law_late_tables.nd rfl (.inl rfl) (de_lstN da_nil)) (ds_cons (ds_for (vs := [4]) PassesOwn.never rfl (di_range1 (by rfl) D.z_range (da_cons (de_var (pv 2)) da_nil)) (dg_name (i := 4) sc__law_late_tables.nd rfl (.inr rfl) (by decide)) (ds_cons (ds_set (i := 5) sc__law_late_tables.nd rfl (.inl rfl) (de_callB cr_sortTs (callD_sortTs (.inl rfl)) (by rfl) D.z_sorted (by decide +kernel) (da_cons (de_lcG (own := [("_law_one", 10), ("_law_probe_here", 11)]) finT_ok rfl sc__law_late_tables.nd (di_enum (by rfl) D.z_enumerate (da_cons (de_var (pv 1)) da_nil)) (blkOk_by (own := [("_law_one", 10), ("_law_probe_here", 11)]) (N := n__law_late_tables) (sc := defScope s__law_late_tables) (by decide +kernel)) (fun _ _ _ _ _ => (dg_tup rfl (dgs_cons (dg_name (i := 10) sc__law_late_tables.nd rfl (.inl rfl) (by decide)) (dgs_cons (dg_name (i := 11) sc__law_late_tables.nd rfl (.inl rfl) (by decide)) dgs_nil)))) (fun _ _ _ _ _ => dts_nil) (fun _ _ _ _ _ => (de_tup (da_cons (de_sub (de_int) (de_index (de_var (pv 11)) (da_cons (de_var (pv 4)) da_nil))) (da_cons (de_call G__law_take gd (hr.mono (by omega)) (by rfl) g__law_take_at F__law_take_.kp b__law_take (da_cons (de_var (pv 0)) (da_cons (de_int) da_nil))) (da_cons (de_var (pv 10)) da_nil)))))) da_nil))) (ds_cons (ds_setLcG (i := 6) finN_ok rfl sc__law_late_tables.nd rfl rfl (sw_true rfl rfl rfl (by decide +kernel)) (di_seq (de_var (pv 5))) (blkOk_by (own := [("_law_late", 8), ("_law_drawn", 9), ("_law_one", 10)]) (N := n__law_late_tables) (sc := defScope s__law_late_tables) (by decide +kernel)) (fun _ _ _ _ _ => (dg_tup rfl (dgs_cons (dg_name (i := 8) sc__law_late_tables.nd rfl (.inl rfl) (by decide)) (dgs_cons (dg_name (i := 9) sc__law_late_tables.nd rfl (.inl rfl) (by decide)) (dgs_cons (dg_name (i := 10) sc__law_late_tables.nd rfl (.inl rfl) (by decide)) dgs_nil))))) (fun _ _ _ _ _ => dts_nil) (fun _ _ _ _ _ => (de_var (pv 10)))) (ds_cons (ds_set (i := 7) sc__law_late_tables.nd rfl (.inl rfl) (de_call G__law_take gd (hr.mono (by omega)) (by rfl) g__law_take_at F__law_take_.kp b__law_take (da_cons (de_var (pv 0)) (da_cons (de_callB call_len_seq callD_len (by rfl) D.z_len PySem.boot_len (da_cons (de_var (pv 6)) da_nil)) da_nil)))) (ds_cons (ds_if (PW.pt (dw_and (dt_cmpR (op_eq2 hr.units) opD_eq (de_call G__law_take gd (hr.mono (by omega)) (by rfl) g__law_take_at F__law_take_.kp b__law_take (da_cons (de_var (pv 0)) (da_cons (de_int) da_nil))) (de_int) (nomark _)) (dw_and1 (dt_cmpR op_gt (opD_I0 fun _ _ _ _ => .bl _) (de_var (pv 7)) (de_int) (nomark _))))) (ds_one (ds_asg (vs := []) (de_tup (da_cons (de_ix (de_var (pv 6)) (de_var (pv 7)) (fun _ _ => rfl)) (da_cons (de_ix (de_var (pv 6)) (de_sub (de_var (pv 7)) (de_int)) (fun _ _ => rfl)) da_nil))) (dg_tup rfl (dgs_cons (dg_sub (de_var (pv 6)) (de_sub (de_var (pv 7)) (de_int))) (dgs_cons (dg_sub (de_var (pv 6)) (de_var (pv 7))) dgs_nil))))) ds_nil) (ds_one (ds_expr (de_bmL PySem.F.slot_list_append PySem.F.type_list_append mt_append mtD_append (de_var (pv 3)) (da_cons (de_call G__law_ordered_table gd (hr.mono (by omega)) (by rfl) g__law_ordered_table_at F__law_ordered_table_.kp b__law_ordered_table (da_cons (de_var (pv 6)) da_nil)) da_nil))))))))) (ds_one (ds_ret (de_callTy call_tup2 callD_tup (by rfl) D.z_tuple (by decide +kernel) (da_cons (de_var (pv 3)) da_nil))))))) sem⟩
theorem ok__law_even_setting (D : Defs K mg base T) {g__law_take : DRs} (C__law_take : Cal P w K mg base T "_law_take" s__law_take 1 ["_law_pot_here", "_law_size"] g__law_take) {g__law_mixed : DRs} (C__law_mixed : Cal P w K mg base T "_law_mixed" s__law_mixed 2 ["_law_pot_here", "_law_some"] g__law_mixed) {g__law_probe : DRs} (C__law_probe : Cal P w K mg base T "_law_probe" s__law_probe 3 ["_law_pot_here", "_law_size"] g__law_probe) {g__law_ordered_table : DRs} (C__law_ordered_table : Cal P w K mg base T "_law_ordered_table" s__law_ordered_table 1 ["_law_order"] g__law_ordered_table) {g__law_late_tables : DRs} (C__law_late_tables : Cal P w K mg base T "_law_late_tables" s__law_late_tables 2 ["_law_pot_here", "_law_some", "_law_spots"] g__law_late_tables) {g_ : DRs} (ar : ∀ ds st Q, g_ ds st Q → ds.length = 3) (sem : ∀ ds st Q, g_ ds st Q → F__law_even_setting g__law_take g__law_mixed g__law_probe g__law_ordered_table g__law_late_tables { nx := fun _ st' => Rt st Q .non st', rt := Rt st Q } (startD 6 ds) st) : Cal P w K mg base T "_law_even_setting" s__law_even_setting 4 ["_law_pot_here", "_law_many", "_law_spots"] g_ := by
  obtain ⟨f, fd, F, b, m⟩ := D.d__law_even_setting
  obtain ⟨f__law_take, fd__law_take, F__law_take_, b__law_take, g__law_take_at, G__law_take⟩ := C__law_take
  obtain ⟨f__law_mixed, fd__law_mixed, F__law_mixed_, b__law_mixed, g__law_mixed_at, G__law_mixed⟩ := C__law_mixed
  obtain ⟨f__law_probe, fd__law_probe, F__law_probe_, b__law_probe, g__law_probe_at, G__law_probe⟩ := C__law_probe
  obtain ⟨f__law_ordered_table, fd__law_ordered_table, F__law_ordered_table_, b__law_ordered_table, g__law_ordered_table_at, G__law_ordered_table⟩ := C__law_ordered_table
  obtain ⟨f__law_late_tables, fd__law_late_tables, F__law_late_tables_, b__law_late_tables, g__law_late_tables_at, G__law_late_tables⟩ := C__law_late_tables
  exact ⟨f, fd, F, b, m, fnD_mk (k := 3) F sc__law_even_setting ar (fun cdv A outer s H E gd hr => (ds_cons (ds_set (i := 3) sc__law_even_setting.nd rfl (.inl rfl) (de_callTy call_tup2 callD_tup (by rfl) D.z_tuple (by decide +kernel) (da_cons (de_lcG (own := [("_law_one", 4)]) finT_ok rfl sc__law_even_setting.nd (di_range1 (by rfl) D.z_range (da_cons (de_var (pv 1)) da_nil)) (blkOk_by (own := [("_law_one", 4)]) (N := n__law_even_setting) (sc := defScope s__law_even_setting) (by decide +kernel)) (fun _ _ _ _ _ => (dg_name (i := 4) sc__law_even_setting.nd rfl (.inl rfl) (by decide))) (fun _ _ _ _ _ => dts_nil) (fun _ _ _ _ _ => (de_call G__law_probe gd (hr.mono (by omega)) (by rfl) g__law_probe_at F__law_probe_.kp b__law_probe (da_cons (de_var (pv 0)) (da_cons (de_var (pv 2)) da_nil))))) da_nil))) (ds_cons (ds_if (dt_cmpR (op_eq2 hr.units) opD_eq (de_call G__law_take gd (hr.mono (by omega)) (by rfl) g__law_take_at F__law_take_.kp b__law_take (da_cons (de_var (pv 0)) (da_cons (de_int) da_nil))) (de_int) (nomark _)) (ds_one (ds_ret (de_tup (da_cons (de_var (pv 3)) (da_cons (de_call G__law_late_tables gd (hr.mono (by omega)) (by rfl) g__law_late_tables_at F__law_late_tables_.kp b__law_late_tables (da_cons (de_var (pv 0)) (da_cons (de_var (pv 3)) (da_cons (de_var (pv 2)) da_nil)))) da_nil))))) ds_nil) (ds_one (ds_ret (de_tup (da_cons (de_var (pv 3)) (da_cons (de_callTy call_tup2 callD_tup (by rfl) D.z_tuple (by decide +kernel) (da_cons (de_lcG (own := [("_law_spot", 5)]) finT_ok rfl sc__law_even_setting.nd (di_range1 (by rfl) D.z_range (da_cons (de_var (pv 2)) da_nil)) (blkOk_by (own := [("_law_spot", 5)]) (N := n__law_even_setting) (sc := defScope s__law_even_setting) (by decide +kernel)) (fun _ _ _ _ _ => (dg_name (i := 5) sc__law_even_setting.nd rfl (.inl rfl) (by decide))) (fun _ _ _ _ _ => dts_nil) (fun _ _ _ _ _ => (de_call G__law_ordered_table gd (hr.mono (by omega)) (by rfl) g__law_ordered_table_at F__law_ordered_table_.kp b__law_ordered_table (da_cons (de_call G__law_mixed gd (hr.mono (by omega)) (by rfl) g__law_mixed_at F__law_mixed_.kp b__law_mixed (da_cons (de_var (pv 0)) (da_cons (de_listRg1 (.inl rfl) rfl (by rfl) D.z_list (by rfl) D.z_range (de_var (pv 1))) da_nil))) da_nil)))) da_nil)) da_nil)))))))) sem⟩
theorem ok__law_few (D : Defs K mg base T) {g__law_take : DRs} (C__law_take : Cal P w K mg base T "_law_take" s__law_take 1 ["_law_pot_here", "_law_size"] g__law_take) {g__law_mixed : DRs} (C__law_mixed : Cal P w K mg base T "_law_mixed" s__law_mixed 2 ["_law_pot_here", "_law_some"] g__law_mixed) {g_ : DRs} (ar : ∀ ds st Q, g_ ds st Q → ds.length = 3) (sem : ∀ ds st Q, g_ ds st Q → F__law_few g__law_take g__law_mixed { nx := fun _ st' => Rt st Q .non st', rt := Rt st Q } (startD 3 ds) st) : Cal P w K mg base T "_law_few" s__law_few 3 ["_law_pot_here", "_law_many", "_law_most"] g_ := by
  obtain ⟨f, fd, F, b, m⟩ := D.d__law_few
  obtain ⟨f__law_take, fd__law_take, F__law_take_, b__law_take, g__law_take_at, G__law_take⟩ := C__law_take
  obtain ⟨f__law_mixed, fd__law_mixed, F__law_mixed_, b__law_mixed, g__law_mixed_at, G__law_mixed⟩ := C__law_mixed
  exact ⟨f, fd, F, b, m, fnD_mk (k := 2) F sc__law_few ar (fun cdv A outer s H E gd hr => (ds_one (ds_ret (de_callTy call_tup2 callD_tup (by rfl) D.z_tuple (by decide +kernel) (da_cons (de_callB call_sort2 (callD_sort (.inl rfl)) (by rfl) D.z_sorted (by decide +kernel) (da_cons (de_slice (.inl rfl) (de_call G__law_mixed gd (hr.mono (by omega)) (by rfl) g__law_mixed_at F__law_mixed_.kp b__law_mixed (da_cons (de_var (pv 0)) (da_cons (de_listRg1 (.inl rfl) rfl (by rfl) D.z_list (by rfl) D.z_range (de_var (pv 1))) da_nil))) do_none (do_some (de_call G__law_take gd (hr.mono (by omega)) (by rfl) g__law_take_at F__law_take_.kp b__law_take (da_cons (de_var (pv 0)) (da_cons (de_add (de_var (pv 2)) (de_int)) da_nil))))) da_nil)) da_nil))))) sem⟩
theorem ok__law_laid (D : Defs K mg base T) {g_ : DRs} (ar : ∀ ds st Q, g_ ds st Q → ds.length = 3) (sem : ∀ ds st Q, g_ ds st Q → F__law_laid_v3 { nx := fun _ st' => Rt st Q .non st', rt := Rt st Q } (startD 9 ds) st) : Cal P w K mg base T "_law_laid" s__law_laid 1 ["_law_some", "_law_tables", "_law_row"] g_ := by
  obtain ⟨f, fd, F, b, m⟩ := D.d__law_laid
  exact ⟨f, fd, F, b, m, fnD_mk (k := 0) F sc__law_laid ar (fun cdv A outer s H E gd hr => (ds_cons (ds_set (i := 3) sc__law_laid.nd rfl (.inl rfl) (de_newK)) (ds_cons (ds_for (vs := [4]) PassesOwn.never rfl (di_seq (de_var (pv 2))) (dg_name (i := 4) sc__law_laid.nd rfl (.inl rfl) (by decide)) (ds_cons (ds_par (i := 5) (j := 6) rfl sc__law_laid.nd rfl rfl (by decide) rfl rfl (da_cons (de_var (pv 4)) (da_cons (de_int) da_nil)) (by rfl)) (ds_cons (ds_while PassesOwn.never (dt_inK (Nat.lt_of_le_of_lt (Nat.add_le_add_left (by decide) _) hr.units) (de_ix (de_ix (de_var (pv 0)) (de_var (pv 5)) (fun _ _ => rfl)) (de_var (pv 6)) (fun _ _ => rfl)) (de_var (pv 3))) (ds_cons (ds_set (i := 7) sc__law_laid.nd rfl (.inl rfl) (de_ix (de_ix (de_var (pv 0)) (de_var (pv 5)) (fun _ _ => rfl)) (de_var (pv 6)) (fun _ _ => rfl))) (ds_cons (ds_set (i := 8) sc__law_laid.nd rfl (.inl rfl) (de_getK (Nat.lt_of_le_of_lt (Nat.add_le_add_left (by decide) _) hr.units) (de_var (pv 3)) (de_var (pv 7)) (fun _ _ => rfl))) (ds_cons (ds_if (dt_cmpR op_notIn_seq (opD_in true) (de_var (pv 5)) (de_ix (de_ix (de_var (pv 1)) (de_var (pv 7)) (fun _ _ => rfl)) (de_var (pv 8)) (fun _ _ => rfl)) (by rfl)) (ds_cons (ds_putK (Nat.lt_of_le_of_lt (Nat.add_le_add_left (by decide) _) hr.units) (de_var (pv 3)) (de_var (pv 7)) (de_var (pv 5))) (ds_one (ds_par (i := 5) (j := 6) rfl sc__law_laid.nd rfl rfl (by decide) rfl rfl (da_cons (de_var (pv 8)) (da_cons (de_index (de_ix (de_var (pv 0)) (de_var (pv 8)) (fun _ _ => rfl)) (da_cons (de_var (pv 7)) da_nil)) da_nil)) (by rfl)))) ds_nil) (ds_one (ds_set (i := 6) sc__law_laid.nd rfl (.inl rfl) (de_add (de_var (pv 6)) (de_int)))))))) (ds_one (ds_putK (Nat.lt_of_le_of_lt (Nat.add_le_add_left (by decide) _) hr.units) (de_var (pv 3)) (de_ix (de_ix (de_var (pv 0)) (de_var (pv 5)) (fun _ _ => rfl)) (de_var (pv 6)) (fun _ _ => rfl)) (de_var (pv 5))))))) (ds_one (ds_ret (de_var (pv 3))))))) sem⟩
theorem ok__law_as_row (D : Defs K mg base T) {g_ : DRs} (ar : ∀ ds st Q, g_ ds st Q → ds.length = 2) (sem : ∀ ds st Q, g_ ds st Q → F__law_as_row { nx := fun _ st' => Rt st Q .non st', rt := Rt st Q } (startD 3 ds) st) : Cal P w K mg base T "_law_as_row" s__law_as_row 1 ["_law_held", "_law_spots"] g_ := by
  obtain ⟨f, fd, F, b, m⟩ := D.d__law_as_row
  exact ⟨f, fd, F, b, m, fnD_mk (k := 0) F sc__law_as_row ar (fun cdv A outer s H E gd hr => (ds_one (ds_ret (de_callTy call_tup2 callD_tup (by rfl) D.z_tuple (by decide +kernel) (da_cons (de_lcG (own := [("_law_spot", 2)]) finT_ok rfl sc__law_as_row.nd (di_range1 (by rfl) D.z_range (da_cons (de_var (pv 1)) da_nil)) (blkOk_by (own := [("_law_spot", 2)]) (N := n__law_as_row) (sc := defScope s__law_as_row) (by decide +kernel)) (fun _ _ _ _ _ => (dg_name (i := 2) sc__law_as_row.nd rfl (.inl rfl) (by decide))) (fun _ _ _ _ _ => dts_nil) (fun _ _ _ _ _ => (de_getD (Nat.lt_of_le_of_lt (Nat.add_le_add_left (by decide) _) hr.units) (de_var (pv 0)) (de_var (pv 2)) (de_neg (de_int))))) da_nil))))) sem⟩
theorem ok__law_reads (D : Defs K mg base T) {g_ : DRs} (ar : ∀ ds st Q, g_ ds st Q → ds.length = 4) (sem : ∀ ds st Q, g_ ds st Q → F__law_reads { nx := fun _ st' => Rt st Q .non st', rt := Rt st Q } (startD 6 ds) st) : Cal P w K mg base T "_law_reads" s__law_reads 1 ["_law_some", "_law_tables", "_law_held", "_law_one"] g_ := by
  obtain ⟨f, fd, F, b, m⟩ := D.d__law_reads
  exact ⟨f, fd, F, b, m, fnD_mk (k := 0) F sc__law_reads ar (fun cdv A outer s H E gd hr => (ds_cons (ds_for (vs := [4, 5]) PassesOwn.never rfl (di_enum (by rfl) D.z_enumerate (da_cons (de_ix (de_var (pv 0)) (de_var (pv 3)) (fun _ _ => rfl)) da_nil)) (dg_tup rfl (dgs_cons (dg_name (i := 4) sc__law_reads.nd rfl (.inl rfl) (by decide)) (dgs_cons (dg_name (i := 5) sc__law_reads.nd rfl (.inl rfl) (by decide)) dgs_nil))) (ds_one (ds_if (PW.pt (dw_or (dt_ninK (Nat.lt_of_le_of_lt (Nat.add_le_add_left (by decide) _) hr.units) (de_var (pv 5)) (de_var (pv 2))) (dw_or1 (dt_cmpR op_in_seq (opD_in false) (de_getK (Nat.lt_of_le_of_lt (Nat.add_le_add_left (by decide) _) hr.units) (de_var (pv 2)) (de_var (pv 5)) (fun _ _ => rfl)) (de_ix (de_ix (de_var (pv 1)) (de_var (pv 5)) (fun _ _ => rfl)) (de_var (pv 3)) (fun _ _ => rfl)) (by rfl))))) (ds_one (ds_ret (de_add (de_var (pv 4)) (de_int)))) ds_nil))) (ds_one (ds_ret (de_callB call_len_seq callD_len (by rfl) D.z_len PySem.boot_len (da_cons (de_ix (de_var (pv 0)) (de_var (pv 3)) (fun _ _ => rfl)) da_nil)))))) sem⟩
theorem ok__law_absent_right (D : Defs K mg base T) {g_insert : DRs} (C_insert : Cal P w K mg base T "insert" s_insert 1 ["probes", "rule", "layout", "key"] g_insert) {g_look_up : DRs} (C_look_up : Cal P w K mg base T "look_up" s_look_up 3 ["probes", "rule", "layout", "key"] g_look_up) {g__law_reads : DRs} (C__law_reads : Cal P w K mg base T "_law_reads" s__law_reads 1 ["_law_some", "_law_tables", "_law_held", "_law_one"] g__law_reads) {g_ : DRs} (ar : ∀ ds st Q, g_ ds st Q → ds.length = 5) (sem : ∀ ds st Q, g_ ds st Q → F__law_absent_right g_insert g_look_up g__law_reads { nx := fun _ st' => Rt st Q .non st', rt := Rt st Q } (startD 7 ds) st) : Cal P w K mg base T "_law_absent_right" s__law_absent_right 4 ["_law_some", "_law_tables", "_law_row", "_law_held", "_law_one"] g_ := by
  obtain ⟨f, fd, F, b, m⟩ := D.d__law_absent_right
  obtain ⟨f_insert, fd_insert, F_insert_, b_insert, g_insert_at, G_insert⟩ := C_insert
  obtain ⟨f_look_up, fd_look_up, F_look_up_, b_look_up, g_look_up_at, G_look_up⟩ := C_look_up
  obtain ⟨f__law_reads, fd__law_reads, F__law_reads_, b__law_reads, g__law_reads_at, G__law_reads⟩ := C__law_reads
  exact ⟨f, fd, F, b, m, fnD_mk (k := 3) F sc__law_absent_right ar (fun cdv A outer s H E gd hr => (ds_cons (ds_set (i := 5) sc__law_absent_right.nd rfl (.inl rfl) (de_call G__law_reads gd (hr.mono (by omega)) (by rfl) g__law_reads_at F__law_reads_.kp b__law_reads (da_cons (de_var (pv 0)) (da_cons (de_var (pv 1)) (da_cons (de_var (pv 3)) (da_cons (de_var (pv 4)) da_nil)))))) (ds_cons (ds_if (dt_cmpR (op_ne2 hr.units) opD_ne (de_callB (call_reprD gd hr.units) callD_repr (by rfl) D.z_repr (by decide +kernel) (da_cons (de_call G_look_up gd (hr.mono (by omega)) (by rfl) g_look_up_at F_look_up_.kp b_look_up (da_cons (de_var (pv 0)) (da_cons (de_var (pv 1)) (da_cons (de_var (pv 2)) (da_cons (de_var (pv 4)) da_nil))))) da_nil)) (de_callB (call_reprD gd hr.units) callD_repr (by rfl) D.z_repr (by decide +kernel) (da_cons (de_tup (da_cons (de_neg (de_int)) (da_cons (de_var (pv 5)) da_nil))) da_nil)) (nomark _)) (ds_one (ds_ret (de_bl))) ds_nil) (ds_cons (ds_if (dt_cmpR op_notIn_seq (opD_in true) (de_neg (de_int)) (de_var (pv 2)) (by rfl)) (ds_one (ds_ret (de_bl))) ds_nil) (ds_cons (ds_set (i := 6) sc__law_absent_right.nd rfl (.inl rfl) (de_ix (de_call G_insert gd (hr.mono (by omega)) (by rfl) g_insert_at F_insert_.kp b_insert (da_cons (de_var (pv 0)) (da_cons (de_var (pv 1)) (da_cons (de_var (pv 2)) (da_cons (de_var (pv 4)) da_nil))))) (de_int) (fun _ _ => rfl))) (ds_one (ds_ret (de_cmp (op_eq2 hr.units) opD_eq (de_ix (de_var (pv 6)) (de_int) (fun _ _ => rfl)) (de_tup (da_cons (de_var (pv 4)) (da_cons (de_ix (de_ix (de_var (pv 0)) (de_var (pv 4)) (fun _ _ => rfl)) (de_sub (de_var (pv 5)) (de_int)) (fun _ _ => rfl)) da_nil))) (nomark _))))))))) sem⟩
theorem ok__law_right (D : Defs K mg base T) {g_layout_of : DRs} (C_layout_of : Cal P w K mg base T "layout_of" s_layout_of 2 ["probes", "rule", "history"] g_layout_of) {g_look_up : DRs} (C_look_up : Cal P w K mg base T "look_up" s_look_up 3 ["probes", "rule", "layout", "key"] g_look_up) {g__law_take : DRs} (C__law_take : Cal P w K mg base T "_law_take" s__law_take 1 ["_law_pot_here", "_law_size"] g__law_take) {g__law_mixed : DRs} (C__law_mixed : Cal P w K mg base T "_law_mixed" s__law_mixed 2 ["_law_pot_here", "_law_some"] g__law_mixed) {g__law_even_setting : DRs} (C__law_even_setting : Cal P w K mg base T "_law_even_setting" s__law_even_setting 4 ["_law_pot_here", "_law_many", "_law_spots"] g__law_even_setting) {g__law_few : DRs} (C__law_few : Cal P w K mg base T "_law_few" s__law_few 3 ["_law_pot_here", "_law_many", "_law_most"] g__law_few) {g__law_laid : DRs} (C__law_laid : Cal P w K mg base T "_law_laid" s__law_laid 1 ["_law_some", "_law_tables", "_law_row"] g__law_laid) {g__law_as_row : DRs} (C__law_as_row : Cal P w K mg base T "_law_as_row" s__law_as_row 1 ["_law_held", "_law_spots"] g__law_as_row) {g__law_absent_right : DRs} (C__law_absent_right : Cal P w K mg base T "_law_absent_right" s__law_absent_right 4 ["_law_some", "_law_tables", "_law_row", "_law_held", "_law_one"] g__law_absent_right) {g_ : DRs} (ar : ∀ ds st Q, g_ ds st Q → ds.length = 1) (sem : ∀ ds st Q, g_ ds st Q → F__law_right_v37 g_layout_of g_look_up g__law_take g__law_mixed g__law_even_setting g__law_few g__law_laid g__law_as_row g__law_absent_right { nx := fun _ st' => Rt st Q .non st', rt := Rt st Q } (startD 12 ds) st) : Cal P w K mg base T "_law_right" s__law_right 5 ["_law_pot_here"] g_ := by
  obtain ⟨f, fd, F, b, m⟩ := D.d__law_right
  obtain ⟨f_layout_of, fd_layout_of, F_layout_of_, b_layout_of, g_layout_of_at, G_layout_of⟩ := C_layout_of
  obtain ⟨f_look_up, fd_look_up, F_look_up_, b_look_up, g_look_up_at, G_look_up⟩ := C_look_up
  obtain ⟨f__law_take, fd__law_take, F__law_take_, b__law_take, g__law_take_at, G__law_take⟩ := C__law_take
  obtain ⟨f__law_mixed, fd__law_mixed, F__law_mixed_, b__law_mixed, g__law_mixed_at, G__law_mixed⟩ := C__law_mixed
  obtain ⟨f__law_even_setting, fd__law_even_setting, F__law_even_setting_, b__law_even_setting, g__law_even_setting_at, G__law_even_setting⟩ := C__law_even_setting
  obtain ⟨f__law_few, fd__law_few, F__law_few_, b__law_few, g__law_few_at, G__law_few⟩ := C__law_few
  obtain ⟨f__law_laid, fd__law_laid, F__law_laid_, b__law_laid, g__law_laid_at, G__law_laid⟩ := C__law_laid
  obtain ⟨f__law_as_row, fd__law_as_row, F__law_as_row_, b__law_as_row, g__law_as_row_at, G__law_as_row⟩ := C__law_as_row
  obtain ⟨f__law_absent_right, fd__law_absent_right, F__law_absent_right_, b__law_absent_right, g__law_absent_right_at, G__law_absent_right⟩ := C__law_absent_right
  exact ⟨f, fd, F, b, m, fnD_mk (k := 4) F sc__law_right ar (fun cdv A outer s H E gd hr => (ds_cons (ds_for (vs := [1]) PassesOwn.never rfl (di_range1 (by rfl) D.z_range (da_cons (de_int) da_nil)) (dg_name (i := 1) sc__law_right.nd rfl (.inl rfl) (by decide)) (ds_cons (ds_par (i := 2) (j := 3) rfl sc__law_right.nd rfl rfl (by decide) rfl rfl (da_cons (de_add (de_int) (de_call G__law_take gd (hr.mono (by omega)) (by rfl) g__law_take_at F__law_take_.kp b__law_take (da_cons (de_var (pv 0)) (da_cons (de_int) da_nil)))) (da_cons (de_add (de_int) (de_call G__law_take gd (hr.mono (by omega)) (by rfl) g__law_take_at F__law_take_.kp b__law_take (da_cons (de_var (pv 0)) (da_cons (de_int) da_nil)))) da_nil)) (by rfl)) (ds_cons (ds_asg (vs := [4, 5]) (de_call G__law_even_setting gd (hr.mono (by omega)) (by rfl) g__law_even_setting_at F__law_even_setting_.kp b__law_even_setting (da_cons (de_var (pv 0)) (da_cons (de_var (pv 2)) (da_cons (de_var (pv 3)) da_nil)))) (dg_tup rfl (dgs_cons (dg_name (i := 4) sc__law_right.nd rfl (.inr rfl) (by decide)) (dgs_cons (dg_name (i := 5) sc__law_right.nd rfl (.inr rfl) (by decide)) dgs_nil)))) (ds_cons (ds_set (i := 6) sc__law_right.nd rfl (.inr rfl) (de_call G__law_few gd (hr.mono (by omega)) (by rfl) g__law_few_at F__law_few_.kp b__law_few (da_cons (de_var (pv 0)) (da_cons (de_var (pv 2)) (da_cons (de_callB (call_min2 rfl) callD_2I (by rfl) D.z_min (by decide +kernel) (da_cons (de_var (pv 2)) (da_cons (de_var (pv 3)) da_nil))) da_nil))))) (ds_cons (ds_if (dt_cmpR (op_eq2 hr.units) opD_eq (de_call G__law_take gd (hr.mono (by omega)) (by rfl) g__law_take_at F__law_take_.kp b__law_take (da_cons (de_var (pv 0)) (da_cons (de_int) da_nil))) (de_int) (nomark _)) (ds_one (ds_set (i := 6) sc__law_right.nd rfl (.inr rfl) (de_slice (.inl rfl) (de_callTy call_tup2 callD_tup (by rfl) D.z_tuple (by decide +kernel) (da_cons (de_listRg1 (.inl rfl) rfl (by rfl) D.z_list (by rfl) D.z_range (de_var (pv 2))) da_nil)) do_none (do_some (de_var (pv 3)))))) ds_nil) (ds_cons (ds_set (i := 7) sc__law_right.nd rfl (.inr rfl) (de_call G_layout_of gd (hr.mono (by omega)) (by rfl) g_layout_of_at F_layout_of_.kp b_layout_of (da_cons (de_var (pv 4)) (da_cons (de_var (pv 5)) (da_cons (de_callTy call_tup2 callD_tup (by rfl) D.z_tuple (by decide +kernel) (da_cons (de_call G__law_mixed gd (hr.mono (by omega)) (by rfl) g__law_mixed_at F__law_mixed_.kp b__law_mixed (da_cons (de_var (pv 0)) (da_cons (de_var (pv 6)) da_nil))) da_nil)) da_nil))))) (ds_cons (ds_set (i := 8) sc__law_right.nd rfl (.inr rfl) (de_call G__law_laid gd (hr.mono (by omega)) (by rfl) g__law_laid_at F__law_laid_.kp b__law_laid (da_cons (de_var (pv 4)) (da_cons (de_var (pv 5)) (da_cons (de_var (pv 6)) da_nil))))) (ds_cons (ds_if (dt_cmpR (op_ne2 hr.units) opD_ne (de_var (pv 7)) (de_call G__law_as_row gd (hr.mono (by omega)) (by rfl) g__law_as_row_at F__law_as_row_.kp b__law_as_row (da_cons (de_var (pv 8)) (da_cons (de_var (pv 3)) da_nil))) (nomark _)) (ds_one (ds_ret (de_bl))) ds_nil) (ds_cons (ds_lockK (i := 8) (ds_for (vs := [9]) PassesOwn.never rfl (di_keysK (de_var (pv 8))) (dg_name (i := 9) sc__law_right.nd rfl (.inl rfl) (by decide)) (ds_cons (ds_set (i := 10) sc__law_right.nd rfl (.inl rfl) (de_getR (Nat.lt_of_le_of_lt (Nat.add_le_add_left (by decide) _) hr.units) (de_var (pv 8)) (de_var (pv 9)) (fun _ _ => rfl))) (ds_one (ds_if (dt_cmpR (op_ne2 hr.units) opD_ne (de_callB (call_reprD gd hr.units) callD_repr (by rfl) D.z_repr (by decide +kernel) (da_cons (de_call G_look_up gd (hr.mono (by omega)) (by rfl) g_look_up_at F_look_up_.kp b_look_up (da_cons (de_var (pv 4)) (da_cons (de_var (pv 5)) (da_cons (de_var (pv 7)) (da_cons (de_var (pv 10)) da_nil))))) da_nil)) (de_callB (call_reprD gd hr.units) callD_repr (by rfl) D.z_repr (by decide +kernel) (da_cons (de_tup (da_cons (de_var (pv 9)) (da_cons (de_add (de_index (de_ix (de_var (pv 4)) (de_var (pv 10)) (fun _ _ => rfl)) (da_cons (de_var (pv 9)) da_nil)) (de_int)) da_nil))) da_nil)) (nomark _)) (ds_one (ds_ret (de_bl))) ds_nil))))) (ds_cons (ds_setLcG (i := 11) finT_ok rfl sc__law_right.nd rfl rfl (sw_true rfl rfl rfl (by decide +kernel)) (di_range1 (by rfl) D.z_range (da_cons (de_var (pv 2)) da_nil)) (blkOk_by (own := [("_law_one", 10)]) (N := n__law_right) (sc := defScope s__law_right) (by decide +kernel)) (fun _ _ _ _ _ => (dg_name (i := 10) sc__law_right.nd rfl (.inl rfl) (by decide))) (fun _ _ _ _ _ => (dts_one (dt_cmpR op_notIn_seq (opD_in true) (de_var (pv 10)) (de_var (pv 6)) (by rfl)))) (fun _ _ _ _ _ => (de_var (pv 10)))) (ds_cons (ds_if (dt_not (dt_val (de_callB (cr_all rfl) (callD_all _) (by rfl) D.z_all (by decide +kernel) (da_cons (de_lcG (own := [("_law_one", 10)]) finT_ok rfl sc__law_right.nd (di_seq (de_var (pv 11))) (blkOk_by (own := [("_law_one", 10)]) (N := n__law_right) (sc := defScope s__law_right) (by decide +kernel)) (fun _ _ _ _ _ => (dg_name (i := 10) sc__law_right.nd rfl (.inl rfl) (by decide))) (fun _ _ _ _ _ => dts_nil) (fun _ _ _ _ _ => (de_call G__law_absent_right gd (hr.mono (by omega)) (by rfl) g__law_absent_right_at F__law_absent_right_.kp b__law_absent_right (da_cons (de_var (pv 4)) (da_cons (de_var (pv 5)) (da_cons (de_var (pv 7)) (da_cons (de_var (pv 8)) (da_cons (de_var (pv 10)) da_nil)))))))) da_nil)))) (ds_one (ds_ret (de_bl))) ds_nil) (ds_one (ds_if (dt_cmpR (op_ne2 hr.units) opD_ne (de_var (pv 7)) (de_call G__law_as_row gd (hr.mono (by omega)) (by rfl) g__law_as_row_at F__law_as_row_.kp b__law_as_row (da_cons (de_var (pv 8)) (da_cons (de_var (pv 3)) da_nil))) (nomark _)) (ds_one (ds_ret (de_bl))) ds_nil))))))))))))) (ds_one (ds_ret (de_bl))))) sem⟩
theorem ok_law (D : Defs K mg base T) {g__law_pot : DRs} (C__law_pot : Cal P w K mg base T "_law_pot" s__law_pot 1 ["_law_script", "_law_k"] g__law_pot) {g__law_right : DRs} (C__law_right : Cal P w K mg base T "_law_right" s__law_right 5 ["_law_pot_here"] g__law_right) {g_ : DRs} (ar : ∀ ds st Q, g_ ds st Q → ds.length = 1) (sem : ∀ ds st Q, g_ ds st Q → F_law_v9 g__law_pot g__law_right { nx := fun _ st' => Rt st Q .non st', rt := Rt st Q } (startD 2 ds) st) : Cal P w K mg base T "law" s_law 6 ["_law_script"] g_ := by
  obtain ⟨f, fd, F, b, m⟩ := D.d_law
  obtain ⟨f__law_pot, fd__law_pot, F__law_pot_, b__law_pot, g__law_pot_at, G__law_pot⟩ := C__law_pot
  obtain ⟨f__law_right, fd__law_right, F__law_right_, b__law_right, g__law_right_at, G__law_right⟩ := C__law_right
  exact ⟨f, fd, F, b, m, fnD_mk (k := 5) F sc_law ar (fun cdv A outer s H E gd hr => (ds_one (ds_ret (de_callB (cr_all rfl) (callD_all _) (by rfl) D.z_all (by decide +kernel) (da_cons (de_lcG (own := [("_law_k", 1)]) finT_ok rfl sc_law.nd (di_range1 (by rfl) D.z_range (da_cons (de_callB (call_max2 rfl) callD_2I (by rfl) D.z_max (by decide +kernel) (da_cons (de_int) (da_cons (de_callB (call_min2 rfl) callD_2I (by rfl) D.z_min (by decide +kernel) (da_cons (de_int) (da_cons (de_callB call_len_seq callD_len (by rfl) D.z_len PySem.boot_len (da_cons (de_var (pv 0)) da_nil)) da_nil))) da_nil))) da_nil)) (blkOk_by (own := [("_law_k", 1)]) (N := n_law) (sc := defScope s_law) (by decide +kernel)) (fun _ _ _ _ _ => (dg_name (i := 1) sc_law.nd rfl (.inl rfl) (by decide))) (fun _ _ _ _ _ => dts_nil) (fun _ _ _ _ _ => (de_call G__law_right gd (hr.mono (by omega)) (by rfl) g__law_right_at F__law_right_.kp b__law_right (da_cons (de_call G__law_pot gd (hr.mono (by omega)) (by rfl) g__law_pot_at F__law_pot_.kp b__law_pot (da_cons (de_var (pv 0)) (da_cons (de_var (pv 1)) da_nil))) da_nil)))) da_nil))))) sem⟩
end
section
variable {P : Program} {w : World} {K : Frag} {mg : Str → Option Value} {base : Heap} {T : List (Addr × Str)}
theorem law_ok (D : Defs K mg base T) : Cal P w K mg base T "law" s_law 6 ["_law_script"] g_law := by
  have C__law_pot := ok__law_pot (P := P) (w := w) D ar_pot sem_pot
  have C_insert := ok_insert (P := P) (w := w) D ar_insert sem_insert
  have C_layout_of := ok_layout_of (P := P) (w := w) D C_insert ar_layout sem_layout
  have C_ring_at := ok_ring_at (P := P) (w := w) D ar_ring sem_ring
  have C_require_ordered := ok_require_ordered (P := P) (w := w) D C_ring_at ar_reqO sem_reqO
  have C_look_up := ok_look_up (P := P) (w := w) D C_require_ordered ar_look sem_look
  have C__law_take := ok__law_take (P := P) (w := w) D ar_take sem_take
  have C__law_mixed := ok__law_mixed (P := P) (w := w) D C__law_take ar_mixed sem_mixed
  have C__law_line := ok__law_line (P := P) (w := w) D ar_line sem_line
  have C__law_probe := ok__law_probe (P := P) (w := w) D C__law_take C__law_mixed C__law_line ar_probe sem_probe
  have C__law_ordered_table := ok__law_ordered_table (P := P) (w := w) D ar_tabOfX sem_tabOfX
  have C__law_late_tables := ok__law_late_tables (P := P) (w := w) D C__law_take C__law_ordered_table ar_lateX sem_lateX
  have C__law_even_setting := ok__law_even_setting (P := P) (w := w) D C__law_take C__law_mixed C__law_probe C__law_ordered_table C__law_late_tables ar_evenX sem_evenX
  have C__law_few := ok__law_few (P := P) (w := w) D C__law_take C__law_mixed ar_fewX sem_fewX
  have C__law_laid := ok__law_laid (P := P) (w := w) D ar_laidX sem_laidX
  have C__law_as_row := ok__law_as_row (P := P) (w := w) D ar_asRow sem_asRow
  have C__law_reads := ok__law_reads (P := P) (w := w) D ar_readsX sem_readsX
  have C__law_absent_right := ok__law_absent_right (P := P) (w := w) D C_insert C_look_up C__law_reads ar_absentX sem_absentX
  have C__law_right := ok__law_right (P := P) (w := w) D C_layout_of C_look_up C__law_take C__law_mixed C__law_even_setting C__law_few C__law_laid C__law_as_row C__law_absent_right ar_right sem_right68
  have C_law := ok_law (P := P) (w := w) D C__law_pot C__law_right ar_law sem_law69
  exact C_law
end
theorem all_mk {l : PySem.W.OpenLaw} {w : World} {K : PySem.W.Frag} {h : Heap} {mg : Str → Option Value} {fa : Addr} (X : K.In h) (G : h.Ns mainGlobals mg) (hfa : mg "law" = some (.ref fa))
    {f1 f2 f3 f4 f5 f6 f7 f8 f9 f10 f11 f12 f13 f14 f15 f16 f17 f18 f19 f20 : Addr} {od1 an1 od2 an2 od3 an3 od4 an4 od5 an5 od6 an6 od7 an7 od8 an8 od9 an9 od10 an10 od11 an11 od12 an12 od13 an13 od14 an14 od15 an15 od16 an16 od17 an17 od18 an18 od19 an19 od20 an20 : Option Addr} {sl1 sl2 sl3 sl4 sl5 sl6 sl7 sl8 sl9 sl10 sl11 sl12 sl13 sl14 sl15 sl16 sl17 sl18 sl19 sl20 : Array (Option Value)} {oc1 kV1 dc1 pm1 cd1 ct1 oc2 kV2 dc2 pm2 cd2 ct2 oc3 kV3 dc3 pm3 cd3 ct3 oc4 kV4 dc4 pm4 cd4 ct4 oc5 kV5 dc5 pm5 cd5 ct5 oc6 kV6 dc6 pm6 cd6 ct6 oc7 kV7 dc7 pm7 cd7 ct7 oc8 kV8 dc8 pm8 cd8 ct8 oc9 kV9 dc9 pm9 cd9 ct9 oc10 kV10 dc10 pm10 cd10 ct10 oc11 kV11 dc11 pm11 cd11 ct11 oc12 kV12 dc12 pm12 cd12 ct12 oc13 kV13 dc13 pm13 cd13 ct13 oc14 kV14 dc14 pm14 cd14 ct14 oc15 kV15 dc15 pm15 cd15 ct15 oc16 kV16 dc16 pm16 cd16 ct16 oc17 kV17 dc17 pm17 cd17 ct17 oc18 kV18 dc18 pm18 cd18 ct18 oc19 kV19 dc19 pm19 cd19 ct19 oc20 kV20 dc20 pm20 cd20 ct20 : Value}
    (a1 : PySem.W.nsIn K mainGlobals "insert" = some (some (.ref f1))) (l1 : K.lookup f1 = some ⟨oc1, od1, .func (PySem.W.fnOf "insert" "insert" (defArgs s_insert) (defBody s_insert) (defScope s_insert) .none kV1 dc1 pm1 an1 cd1 ct1), sl1⟩) (c1 : PySem.W.codeIn K cd1 "insert" = true) (k1 : PySem.W.keepIn K (.ref f1) = true)
    (a2 : PySem.W.nsIn K mainGlobals "layout_of" = some (some (.ref f2))) (l2 : K.lookup f2 = some ⟨oc2, od2, .func (PySem.W.fnOf "layout_of" "layout_of" (defArgs s_layout_of) (defBody s_layout_of) (defScope s_layout_of) .none kV2 dc2 pm2 an2 cd2 ct2), sl2⟩) (c2 : PySem.W.codeIn K cd2 "layout_of" = true) (k2 : PySem.W.keepIn K (.ref f2) = true)
    (a3 : PySem.W.nsIn K mainGlobals "ring_at" = some (some (.ref f3))) (l3 : K.lookup f3 = some ⟨oc3, od3, .func (PySem.W.fnOf "ring_at" "ring_at" (defArgs s_ring_at) (defBody s_ring_at) (defScope s_ring_at) .none kV3 dc3 pm3 an3 cd3 ct3), sl3⟩) (c3 : PySem.W.codeIn K cd3 "ring_at" = true) (k3 : PySem.W.keepIn K (.ref f3) = true)
    (a4 : PySem.W.nsIn K mainGlobals "require_ordered" = some (some (.ref f4))) (l4 : K.lookup f4 = some ⟨oc4, od4, .func (PySem.W.fnOf "require_ordered" "require_ordered" (defArgs s_require_ordered) (defBody s_require_ordered) (defScope s_require_ordered) .none kV4 dc4 pm4 an4 cd4 ct4), sl4⟩) (c4 : PySem.W.codeIn K cd4 "require_ordered" = true) (k4 : PySem.W.keepIn K (.ref f4) = true)
    (a5 : PySem.W.nsIn K mainGlobals "look_up" = some (some (.ref f5))) (l5 : K.lookup f5 = some ⟨oc5, od5, .func (PySem.W.fnOf "look_up" "look_up" (defArgs s_look_up) (defBody s_look_up) (defScope s_look_up) .none kV5 dc5 pm5 an5 cd5 ct5), sl5⟩) (c5 : PySem.W.codeIn K cd5 "look_up" = true) (k5 : PySem.W.keepIn K (.ref f5) = true)
    (a6 : PySem.W.nsIn K mainGlobals "_law_pot" = some (some (.ref f6))) (l6 : K.lookup f6 = some ⟨oc6, od6, .func (PySem.W.fnOf "_law_pot" "_law_pot" (defArgs s__law_pot) (defBody s__law_pot) (defScope s__law_pot) .none kV6 dc6 pm6 an6 cd6 ct6), sl6⟩) (c6 : PySem.W.codeIn K cd6 "_law_pot" = true) (k6 : PySem.W.keepIn K (.ref f6) = true)
    (a7 : PySem.W.nsIn K mainGlobals "_law_take" = some (some (.ref f7))) (l7 : K.lookup f7 = some ⟨oc7, od7, .func (PySem.W.fnOf "_law_take" "_law_take" (defArgs s__law_take) (defBody s__law_take) (defScope s__law_take) .none kV7 dc7 pm7 an7 cd7 ct7), sl7⟩) (c7 : PySem.W.codeIn K cd7 "_law_take" = true) (k7 : PySem.W.keepIn K (.ref f7) = true)
    (a8 : PySem.W.nsIn K mainGlobals "_law_mixed" = some (some (.ref f8))) (l8 : K.lookup f8 = some ⟨oc8, od8, .func (PySem.W.fnOf "_law_mixed" "_law_mixed" (defArgs s__law_mixed) (defBody s__law_mixed) (defScope s__law_mixed) .none kV8 dc8 pm8 an8 cd8 ct8), sl8⟩) (c8 : PySem.W.codeIn K cd8 "_law_mixed" = true) (k8 : PySem.W.keepIn K (.ref f8) = true)
    (a9 : PySem.W.nsIn K mainGlobals "_law_line" = some (some (.ref f9))) (l9 : K.lookup f9 = some ⟨oc9, od9, .func (PySem.W.fnOf "_law_line" "_law_line" (defArgs s__law_line) (defBody s__law_line) (defScope s__law_line) .none kV9 dc9 pm9 an9 cd9 ct9), sl9⟩) (c9 : PySem.W.codeIn K cd9 "_law_line" = true) (k9 : PySem.W.keepIn K (.ref f9) = true)
    (a10 : PySem.W.nsIn K mainGlobals "_law_probe" = some (some (.ref f10))) (l10 : K.lookup f10 = some ⟨oc10, od10, .func (PySem.W.fnOf "_law_probe" "_law_probe" (defArgs s__law_probe) (defBody s__law_probe) (defScope s__law_probe) .none kV10 dc10 pm10 an10 cd10 ct10), sl10⟩) (c10 : PySem.W.codeIn K cd10 "_law_probe" = true) (k10 : PySem.W.keepIn K (.ref f10) = true)
    (a11 : PySem.W.nsIn K mainGlobals "_law_ordered_table" = some (some (.ref f11))) (l11 : K.lookup f11 = some ⟨oc11, od11, .func (PySem.W.fnOf "_law_ordered_table" "_law_ordered_table" (defArgs s__law_ordered_table) (defBody s__law_ordered_table) (defScope s__law_ordered_table) .none kV11 dc11 pm11 an11 cd11 ct11), sl11⟩) (c11 : PySem.W.codeIn K cd11 "_law_ordered_table" = true) (k11 : PySem.W.keepIn K (.ref f11) = true)
    (a12 : PySem.W.nsIn K mainGlobals "_law_late_tables" = some (some (.ref f12))) (l12 : K.lookup f12 = some ⟨oc12, od12, .func (PySem.W.fnOf "_law_late_tables" "_law_late_tables" (defArgs s__law_late_tables) (defBody s__law_late_tables) (defScope s__law_late_tables) .none kV12 dc12 pm12 an12 cd12 ct12), sl12⟩) (c12 : PySem.W.codeIn K cd12 "_law_late_tables" = true) (k12 : PySem.W.keepIn K (.ref f12) = true)
    (a13 : PySem.W.nsIn K mainGlobals "_law_even_setting" = some (some (.ref f13))) (l13 : K.lookup f13 = some ⟨oc13, od13, .func (PySem.W.fnOf "_law_even_setting" "_law_even_setting" (defArgs s__law_even_setting) (defBody s__law_even_setting) (defScope s__law_even_setting) .none kV13 dc13 pm13 an13 cd13 ct13), sl13⟩) (c13 : PySem.W.codeIn K cd13 "_law_even_setting" = true) (k13 : PySem.W.keepIn K (.ref f13) = true)
    (a14 : PySem.W.nsIn K mainGlobals "_law_few" = some (some (.ref f14))) (l14 : K.lookup f14 = some ⟨oc14, od14, .func (PySem.W.fnOf "_law_few" "_law_few" (defArgs s__law_few) (defBody s__law_few) (defScope s__law_few) .none kV14 dc14 pm14 an14 cd14 ct14), sl14⟩) (c14 : PySem.W.codeIn K cd14 "_law_few" = true) (k14 : PySem.W.keepIn K (.ref f14) = true)
    (a15 : PySem.W.nsIn K mainGlobals "_law_laid" = some (some (.ref f15))) (l15 : K.lookup f15 = some ⟨oc15, od15, .func (PySem.W.fnOf "_law_laid" "_law_laid" (defArgs s__law_laid) (defBody s__law_laid) (defScope s__law_laid) .none kV15 dc15 pm15 an15 cd15 ct15), sl15⟩) (c15 : PySem.W.codeIn K cd15 "_law_laid" = true) (k15 : PySem.W.keepIn K (.ref f15) = true)
    (a16 : PySem.W.nsIn K mainGlobals "_law_as_row" = some (some (.ref f16))) (l16 : K.lookup f16 = some ⟨oc16, od16, .func (PySem.W.fnOf "_law_as_row" "_law_as_row" (defArgs s__law_as_row) (defBody s__law_as_row) (defScope s__law_as_row) .none kV16 dc16 pm16 an16 cd16 ct16), sl16⟩) (c16 : PySem.W.codeIn K cd16 "_law_as_row" = true) (k16 : PySem.W.keepIn K (.ref f16) = true)
    (a17 : PySem.W.nsIn K mainGlobals "_law_reads" = some (some (.ref f17))) (l17 : K.lookup f17 = some ⟨oc17, od17, .func (PySem.W.fnOf "_law_reads" "_law_reads" (defArgs s__law_reads) (defBody s__law_reads) (defScope s__law_reads) .none kV17 dc17 pm17 an17 cd17 ct17), sl17⟩) (c17 : PySem.W.codeIn K cd17 "_law_reads" = true) (k17 : PySem.W.keepIn K (.ref f17) = true)
    (a18 : PySem.W.nsIn K mainGlobals "_law_absent_right" = some (some (.ref f18))) (l18 : K.lookup f18 = some ⟨oc18, od18, .func (PySem.W.fnOf "_law_absent_right" "_law_absent_right" (defArgs s__law_absent_right) (defBody s__law_absent_right) (defScope s__law_absent_right) .none kV18 dc18 pm18 an18 cd18 ct18), sl18⟩) (c18 : PySem.W.codeIn K cd18 "_law_absent_right" = true) (k18 : PySem.W.keepIn K (.ref f18) = true)
    (a19 : PySem.W.nsIn K mainGlobals "_law_right" = some (some (.ref f19))) (l19 : K.lookup f19 = some ⟨oc19, od19, .func (PySem.W.fnOf "_law_right" "_law_right" (defArgs s__law_right) (defBody s__law_right) (defScope s__law_right) .none kV19 dc19 pm19 an19 cd19 ct19), sl19⟩) (c19 : PySem.W.codeIn K cd19 "_law_right" = true) (k19 : PySem.W.keepIn K (.ref f19) = true)
    (a20 : PySem.W.nsIn K mainGlobals "law" = some (some (.ref f20))) (l20 : K.lookup f20 = some ⟨oc20, od20, .func (PySem.W.fnOf "law" "law" (defArgs s_law) (defBody s_law) (defScope s_law) .none kV20 dc20 pm20 an20 cd20 ct20), sl20⟩) (c20 : PySem.W.codeIn K cd20 "law" = true) (k20 : PySem.W.keepIn K (.ref f20) = true)
    {tm_EMPTY : Tok} (y_EMPTY : PySem.W.nsIn K mainGlobals "EMPTY" = some (some (.int (-1) tm_EMPTY)))
    {tm_NO_SLOT : Tok} (y_NO_SLOT : PySem.W.nsIn K mainGlobals "NO_SLOT" = some (some (.int (-1) tm_NO_SLOT)))
    (z_abs : PySem.W.nsIn K mainGlobals "abs" = some none)
    (z_all : PySem.W.nsIn K mainGlobals "all" = some none)
    (z_enumerate : PySem.W.nsIn K mainGlobals "enumerate" = some none)
    (z_len : PySem.W.nsIn K mainGlobals "len" = some none)
    (z_list : PySem.W.nsIn K mainGlobals "list" = some none)
    (z_max : PySem.W.nsIn K mainGlobals "max" = some none)
    (z_min : PySem.W.nsIn K mainGlobals "min" = some none)
    (z_range : PySem.W.nsIn K mainGlobals "range" = some none)
    (z_repr : PySem.W.nsIn K mainGlobals "repr" = some none)
    (z_sorted : PySem.W.nsIn K mainGlobals "sorted" = some none)
    (z_tuple : PySem.W.nsIn K mainGlobals "tuple" = some none)
    :
    ∃ fd : FuncData, (∀ (s : Shared) (v : Value), BindsTo s fd ⟨[v], []⟩ [("_law_script", v)]) ∧
      ∀ base : Heap, K.In base → base.Ns mainGlobals mg → FnG l.prog w K mg base 6 fa fd ["_law_script"] (spD [] K 1 g_law) := by
  have e := hfa.symm.trans (PySem.W.mg_of X G a20)
  cases e
  have F1 := fun_mk (st := s_insert) l1 c1 k1
  have b1 := F1.binds (ps := ["probes", "rule", "layout", "key"]) fun _ _ _ _ _ _ us hl => match us, hl with | [_, _, _, _], _ => rfl
  have F2 := fun_mk (st := s_layout_of) l2 c2 k2
  have b2 := F2.binds (ps := ["probes", "rule", "history"]) fun _ _ _ _ _ _ us hl => match us, hl with | [_, _, _], _ => rfl
  have F3 := fun_mk (st := s_ring_at) l3 c3 k3
  have b3 := F3.binds (ps := ["rule", "slot"]) fun _ _ _ _ _ _ us hl => match us, hl with | [_, _], _ => rfl
  have F4 := fun_mk (st := s_require_ordered) l4 c4 k4
  have b4 := F4.binds (ps := ["rule"]) fun _ _ _ _ _ _ us hl => match us, hl with | [_], _ => rfl
  have F5 := fun_mk (st := s_look_up) l5 c5 k5
  have b5 := F5.binds (ps := ["probes", "rule", "layout", "key"]) fun _ _ _ _ _ _ us hl => match us, hl with | [_, _, _, _], _ => rfl
  have F6 := fun_mk (st := s__law_pot) l6 c6 k6
  have b6 := F6.binds (ps := ["_law_script", "_law_k"]) fun _ _ _ _ _ _ us hl => match us, hl with | [_, _], _ => rfl
  have F7 := fun_mk (st := s__law_take) l7 c7 k7
  have b7 := F7.binds (ps := ["_law_pot_here", "_law_size"]) fun _ _ _ _ _ _ us hl => match us, hl with | [_, _], _ => rfl
  have F8 := fun_mk (st := s__law_mixed) l8 c8 k8
  have b8 := F8.binds (ps := ["_law_pot_here", "_law_some"]) fun _ _ _ _ _ _ us hl => match us, hl with | [_, _], _ => rfl
  have F9 := fun_mk (st := s__law_line) l9 c9 k9
  have b9 := F9.binds (ps := ["_law_size", "_law_begin"]) fun _ _ _ _ _ _ us hl => match us, hl with | [_, _], _ => rfl
  have F10 := fun_mk (st := s__law_probe) l10 c10 k10
  have b10 := F10.binds (ps := ["_law_pot_here", "_law_size"]) fun _ _ _ _ _ _ us hl => match us, hl with | [_, _], _ => rfl
  have F11 := fun_mk (st := s__law_ordered_table) l11 c11 k11
  have b11 := F11.binds (ps := ["_law_order"]) fun _ _ _ _ _ _ us hl => match us, hl with | [_], _ => rfl
  have F12 := fun_mk (st := s__law_late_tables) l12 c12 k12
  have b12 := F12.binds (ps := ["_law_pot_here", "_law_some", "_law_spots"]) fun _ _ _ _ _ _ us hl => match us, hl with | [_, _, _], _ => rfl
  have F13 := fun_mk (st := s__law_even_setting) l13 c13 k13
  have b13 := F13.binds (ps := ["_law_pot_here", "_law_many", "_law_spots"]) fun _ _ _ _ _ _ us hl => match us, hl with | [_, _, _], _ => rfl
  have F14 := fun_mk (st := s__law_few) l14 c14 k14
  have b14 := F14.binds (ps := ["_law_pot_here", "_law_many", "_law_most"]) fun _ _ _ _ _ _ us hl => match us, hl with | [_, _, _], _ => rfl
  have F15 := fun_mk (st := s__law_laid) l15 c15 k15
  have b15 := F15.binds (ps := ["_law_some", "_law_tables", "_law_row"]) fun _ _ _ _ _ _ us hl => match us, hl with | [_, _, _], _ => rfl
  have F16 := fun_mk (st := s__law_as_row) l16 c16 k16
  have b16 := F16.binds (ps := ["_law_held", "_law_spots"]) fun _ _ _ _ _ _ us hl => match us, hl with | [_, _], _ => rfl
  have F17 := fun_mk (st := s__law_reads) l17 c17 k17
  have b17 := F17.binds (ps := ["_law_some", "_law_tables", "_law_held", "_law_one"]) fun _ _ _ _ _ _ us hl => match us, hl with | [_, _, _, _], _ => rfl
  have F18 := fun_mk (st := s__law_absent_right) l18 c18 k18
  have b18 := F18.binds (ps := ["_law_some", "_law_tables", "_law_row", "_law_held", "_law_one"]) fun _ _ _ _ _ _ us hl => match us, hl with | [_, _, _, _, _], _ => rfl
  have F19 := fun_mk (st := s__law_right) l19 c19 k19
  have b19 := F19.binds (ps := ["_law_pot_here"]) fun _ _ _ _ _ _ us hl => match us, hl with | [_], _ => rfl
  have F20 := fun_mk (st := s_law) l20 c20 k20
  have b20 := F20.binds (ps := ["_law_script"]) fun _ _ _ _ _ _ us hl => match us, hl with | [_], _ => rfl
  refine ⟨_, fun s v => F20.bindsK fun _ _ _ _ _ _ => rfl, fun base _ _ => ?_⟩
  have D : Defs K mg base [] := ⟨⟨_, _, F1, b1, PySem.W.mg_of X G a1⟩,
    ⟨_, _, F2, b2, PySem.W.mg_of X G a2⟩,
    ⟨_, _, F3, b3, PySem.W.mg_of X G a3⟩,
    ⟨_, _, F4, b4, PySem.W.mg_of X G a4⟩,
    ⟨_, _, F5, b5, PySem.W.mg_of X G a5⟩,
    ⟨_, _, F6, b6, PySem.W.mg_of X G a6⟩,
    ⟨_, _, F7, b7, PySem.W.mg_of X G a7⟩,
    ⟨_, _, F8, b8, PySem.W.mg_of X G a8⟩,
    ⟨_, _, F9, b9, PySem.W.mg_of X G a9⟩,
    ⟨_, _, F10, b10, PySem.W.mg_of X G a10⟩,
    ⟨_, _, F11, b11, PySem.W.mg_of X G a11⟩,
    ⟨_, _, F12, b12, PySem.W.mg_of X G a12⟩,
    ⟨_, _, F13, b13, PySem.W.mg_of X G a13⟩,
    ⟨_, _, F14, b14, PySem.W.mg_of X G a14⟩,
    ⟨_, _, F15, b15, PySem.W.mg_of X G a15⟩,
    ⟨_, _, F16, b16, PySem.W.mg_of X G a16⟩,
    ⟨_, _, F17, b17, PySem.W.mg_of X G a17⟩,
    ⟨_, _, F18, b18, PySem.W.mg_of X G a18⟩,
    ⟨_, _, F19, b19, PySem.W.mg_of X G a19⟩,
    ⟨_, _, F20, b20, PySem.W.mg_of X G a20⟩,
    ⟨_, PySem.W.mg_of X G y_EMPTY, _, rfl⟩,
    ⟨_, PySem.W.mg_of X G y_NO_SLOT, _, rfl⟩,
    PySem.W.mg_none_of X G z_abs,
    PySem.W.mg_none_of X G z_all,
    PySem.W.mg_none_of X G z_enumerate,
    PySem.W.mg_none_of X G z_len,
    PySem.W.mg_none_of X G z_list,
    PySem.W.mg_none_of X G z_max,
    PySem.W.mg_none_of X G z_min,
    PySem.W.mg_none_of X G z_range,
    PySem.W.mg_none_of X G z_repr,
    PySem.W.mg_none_of X G z_sorted,
    PySem.W.mg_none_of X G z_tuple⟩
  obtain ⟨f, fd, F, b, m, C⟩ := law_ok (P := l.prog) (w := w) D
  have e2 := m.symm.trans (PySem.W.mg_of X G a20)
  cases e2
  have e3 := F.one F20
  subst e3
  exact C.fn

end DL.K68
open PySem PySem.W PyProof.Rows
set_option maxHeartbeats 0 in
theorem PySem.Challenge.cw_samelayout_k68_whole_looking_up_holds : PySem.Challenge.rw_samelayout_k68_whole_looking_up.Holds := by
  w_on; o_law; k_head; (case hw => w_witness2)
  k_fill
  refine SL.walkG (l := PySem.Challenge.rw_samelayout_k68_whole_looking_up) (n := 63) (k := 6) (x := "_law_script") (sp := fun K => DL.spD [] K 1 DL.g_law) rfl (by decide) rfl ⟨rfl, by decide, by decide⟩ (fun w h Y => by first | exact PySem.W.km_in_of Y | exact PySem.W.kIn_of Y) ?F (fun K H a ns hl only hS => DL.law_start (cs := []) (fun p hp => by cases hp) (fun p hp => by cases hp) hS fun x hx => ⟨ns, x, rfl, hx, hl, fun _ => rfl⟩)
  case F =>
    intro w mg fa h KX G hmg
    refine' DL.K68.all_mk KX G hmg ?a1 ?l1 ?c1 ?k1 ?a2 ?l2 ?c2 ?k2 ?a3 ?l3 ?c3 ?k3 ?a4 ?l4 ?c4 ?k4 ?a5 ?l5 ?c5 ?k5 ?a6 ?l6 ?c6 ?k6 ?a7 ?l7 ?c7 ?k7 ?a8 ?l8 ?c8 ?k8 ?a9 ?l9 ?c9 ?k9 ?a10 ?l10 ?c10 ?k10 ?a11 ?l11 ?c11 ?k11 ?a12 ?l12 ?c12 ?k12 ?a13 ?l13 ?c13 ?k13 ?a14 ?l14 ?c14 ?k14 ?a15 ?l15 ?c15 ?k15 ?a16 ?l16 ?c16 ?k16 ?a17 ?l17 ?c17 ?k17 ?a18 ?l18 ?c18 ?k18 ?a19 ?l19 ?c19 ?k19 ?a20 ?l20 ?c20 ?k20 ?y_EMPTY ?y_NO_SLOT ?z_abs ?z_all ?z_enumerate ?z_len ?z_list ?z_max ?z_min ?z_range ?z_repr ?z_sorted ?z_tuple
    (case a1 => k_is); (case l1 => k_is); (case c1 => k_is); (case k1 => k_is)
    (case a2 => k_is); (case l2 => k_is); (case c2 => k_is); (case k2 => k_is)
    (case a3 => k_is); (case l3 => k_is); (case c3 => k_is); (case k3 => k_is)
    (case a4 => k_is); (case l4 => k_is); (case c4 => k_is); (case k4 => k_is)
    (case a5 => k_is); (case l5 => k_is); (case c5 => k_is); (case k5 => k_is)
    (case a6 => k_is); (case l6 => k_is); (case c6 => k_is); (case k6 => k_is)
    (case a7 => k_is); (case l7 => k_is); (case c7 => k_is); (case k7 => k_is)
    (case a8 => k_is); (case l8 => k_is); (case c8 => k_is); (case k8 => k_is)
    (case a9 => k_is); (case l9 => k_is); (case c9 => k_is); (case k9 => k_is)
    (case a10 => k_is); (case l10 => k_is); (case c10 => k_is); (case k10 => k_is)
    (case a11 => k_is); (case l11 => k_is); (case c11 => k_is); (case k11 => k_is)
    (case a12 => k_is); (case l12 => k_is); (case c12 => k_is); (case k12 => k_is)
    (case a13 => k_is); (case l13 => k_is); (case c13 => k_is); (case k13 => k_is)
    (case a14 => k_is); (case l14 => k_is); (case c14 => k_is); (case k14 => k_is)
    (case a15 => k_is); (case l15 => k_is); (case c15 => k_is); (case k15 => k_is)
    (case a16 => k_is); (case l16 => k_is); (case c16 => k_is); (case k16 => k_is)
    (case a17 => k_is); (case l17 => k_is); (case c17 => k_is); (case k17 => k_is)
    (case a18 => k_is); (case l18 => k_is); (case c18 => k_is); (case k18 => k_is)
    (case a19 => k_is); (case l19 => k_is); (case c19 => k_is); (case k19 => k_is)
    (case a20 => k_is); (case l20 => k_is); (case c20 => k_is); (case k20 => k_is)
    (case y_EMPTY => k_is)
    (case y_NO_SLOT => k_is)
    (case z_abs => k_is)
    (case z_all => k_is)
    (case z_enumerate => k_is)
    (case z_len => k_is)
    (case z_list => k_is)
    (case z_max => k_is)
    (case z_min => k_is)
    (case z_range => k_is)
    (case z_repr => k_is)
    (case z_sorted => k_is)
    (case z_tuple => k_is)

