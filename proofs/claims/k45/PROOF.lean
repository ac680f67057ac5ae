import PyProof.Rows.All
import Wide.All
import OpenK.AllK
import Wide.FinOn
import HandS.ForMost
import HandS.IsInst
import HandS.Conv
import HandS.SetFor
import HandS.SortInts
import HandS.TupAny
import HandS.Wide
import HandS.Style
import HandS.RaiseMore
import HandS.ExcValue
import KE.SortKeyHeap
import HandS.Lambda
import HandS.EndTab
import HandS.TupMul
import HandS.Flow
import HandS.Strs
import PyProof.ReprLen
import HandS.TryOnly
import HandS.Zip
import KE.GoesMore
import KE.DataMinMax
import HandS.SortKw
import HandS.Deep
import HandS.More
import HandS.DeepEq
import PyProof.SumAny
import PyProof.ListOps
import KE.KDictZip
import PyProof.CollectIter
import HandS.ExcInit
import HandS.ExcField
import HandS.ExcIs
import HandS.Small
import HandS.WordsExc
import KE.KExcIs
import KE.GoesEnumKw
import KE.DataMinKey
import PyProof.WalkInts
import HandS.SortRule
import KE.DatumOrd
import KE.SortData
import PyProof.Rows.SetFrom
import PyProof.P3In
import HandS.ListItems
import HandS.Sort
import KE.KDictSum
import HandS.DictTup
import KE.KDictDisplayH
import KE.LtSeq
import HandS.TupLen
import KE.KDictPairs
import HandS.Flt
import HandS.DictComp
import HandS.MakeKwOnly
import HandS.Replace
import KE.KEqDict
import HandS.OwnEq
import PyProof.InstNe
import HandS.FStr
import PySem.Challenge.RW_samelayout_k45_settings_written_and_read
set_option Elab.async false
set_option linter.all false
set_option maxRecDepth 100000
namespace SL
open PySem PySem.Spec PyProof.Rows L2
structure FnG (P : Program) (w : World) (K : PySem.W.Frag) (mg : Str → Option Value) (base : Heap) (k : Nat) (f : Addr)
    (fd : FuncData) (ps : List Str) (sp : Sp) : Prop where
  size : ∀ vs H Q E, sp vs H Q E → vs.length = ps.length
  go : ∀ (A : Around) (outer : List Env) (s : Shared) (H : Hp) (args : Args) (us : List Value) (vs : List V) (Q : VK) (E : XK),
    A.guards = some [] → Room k A → Env0 P w K mg base A outer s H → BindsTo s fd args (ps.zip us) → Vals vs us →
    sp vs H Q E → codeAny (model P w) A (.call (.ref f) args) (CR CX0 outer P w H s Q E) s

section
variable {P : Program} {w : World} {K : PySem.W.Frag} {mg : Str → Option Value} {base : Heap}
theorem fnG_mk {x qual : Str} {st : Stmt} {f : Addr} {fd : FuncData} {N ps : List Str} {k : Nat} {sp : Sp}
    (F : Fun K x qual st f fd) (sc : FnScope N ps (defScope st)) (size : ∀ vs H Q E, sp vs H Q E → vs.length = ps.length)
    (body : ∀ (cdv : Value) (A : Around) (outer : List Env) (s : Shared) (H : Hp) (vs : List V) (Q : VK) (E : XK),
      A.guards = some [] → Room k (A.deeper (envOfC qual (defScope st) s.heap.objs.size f cdv)) → sp vs H Q E →
      ∃ t, PSs (cxOf CX0 P w K mg base N qual (defScope st) f cdv A outer s H E).nox (defBody st) t ∧
        t { nx := fun _ H' => Q .non H', rt := Q } (start N vs) H) : FnG P w K mg base (k + 1) f fd ps sp := by
  obtain ⟨oc, od, kV, doc, pm, an, cdv, ct, osl, rfl, look, code⟩ := F.ex
  constructor
  · exact size
  · intro A outer s H args us vs Q E hgd room env bound rel prom
    have many := size _ _ _ _ prom
    have inK : K.In s.heap := env.mod.kin.keeps fun b o q => (env.bs b o q).1
    have free : s.heap.NoLimit := env.mod.nolimit.keeps fun b o q => (env.bs b o q).1
    refine codeAny_call_function room.depth (inK _ _ look) rfl sc.co sc.gen rfl (PySem.W.codeRec_of inK code)
      (bound _ _ _ _ ?_)
    refine wpAny_newFunctionEnv_cells sc.kind ?kinds fun env' same s1 fresh => ?_
    case kinds =>
      rintro ⟨n, v⟩ here
      rcases sc.par n (List.of_mem_zip here).1 with q | q
      · exact Or.inl q
      · exact Or.inr ⟨q, PySem.W.cellsFrom_some _ _ _ (Or.inl q)⟩
    subst same
    refine ⟨free.keeps fresh.toInCall.keep, codeAny_func ?_⟩
    obtain ⟨t, der, reading⟩ := body cdv A outer s H vs Q E hgd (room.deeper _) prom
    have I := inv_start (CX := CX0) (E := E) sc room.hd env many rel fresh
    refine wpAny_mono (der.nox.run [] s1 (start N vs) H _ I reading) (fun fl s' e => ?_) fun _ _ e => e
    cases fl with
    | ret u => obtain ⟨v, σ', H', J, r', q⟩ := e; exact ⟨v, H', J.os, J.bare, J.base, J.hok, r', q⟩
    | next => obtain ⟨σ', H', J, q⟩ := e; exact ⟨.non, H', J.os, J.bare, J.base, J.hok, rfl, q⟩
    | brk => obtain ⟨_, _, _, q⟩ := e; exact False.elim q
    | cont => obtain ⟨_, _, _, q⟩ := e; exact False.elim q

theorem pe_callG {X : Cx} {k : Nat} {f : Addr} {fd : FuncData} {ps : List Str} {sp : Sp} {x : Str} {p pos : Pos} {e : Expr} {es : List Expr} {t : TA}
    (F : FnG X.prog X.w X.K X.mg X.base k f fd ps sp) (gd : X.A.guards = some []) (room : Room k X.A) (gl : Gl X x)
    (at_ : X.mg x = some (.ref f)) (keep : PySem.W.keepIn X.K (.ref f) = true) (bd : Binds X.K fd ps []) (args : PA X (e :: es) t)
    (h1 : (x == ("__debug__" : Str)) = false := by decide)
    (h2 : starEach (e :: es) X.env = (false, eval e X.env) :: starEach es X.env := by rfl)
    (h3 : (backTo pos (starEach es X.env)).any (·.1) = false := by rfl) :
    PE X (.Call (.Name x p) (e :: es) [] pos) (tCall sp [] E0 t) := by
  constructor
  intro pins s σ H Q I h
  refine wpAny_Call_Name_kw (ld_glob I gl at_ ?_ h1)
  refine PySem.W.callWith_K (h₀ := X.base) I.ok.mod.kin keep (thn (args.run pos pins s σ H _ I h) ?_) h2 h3
  rintro us s1 ⟨vs, H1, I1, rel, q⟩
  refine ⟨I1.kIn, ?_⟩
  have q' : sp vs H1 Q E0 := by have z := q; rw [List.append_nil] at z; exact z
  have long : us.length = ps.length := by rw [← rel.length]; exact F.size _ _ _ _ q'
  have bd' := bd s1 us I1.kIn (by rw [List.append_nil]; exact long)
  rw [List.append_nil] at bd'
  refine wpAny_call (codeAny_mono (F.go X.A X.stack s1 H1 ⟨us, []⟩ us vs Q E0 gd room I1.env0 bd' rel q') fun r s' here => ?_)
  cases r with
  | error _ => exact False.elim here
  | ok fl => cases fl with
    | ret _ => exact I1.after here
    | next => exact False.elim here
    | brk => exact False.elim here
    | cont => exact False.elim here
end
theorem lawG {P : Program} {w : World} {K : PySem.W.Frag} {mg mb : Str → Option Value} {k : Nat} {fa a : Addr} {fd : FuncData} {x : Str} {sp : Sp}
    {s₁ : Shared} {vs : List Value} {ns : List Int} (inK : K.In s₁.heap) (gl : s₁.heap.Ns mainGlobals mg) (bl : s₁.heap.Ns builtinsNs mb)
    (bb : ∀ x : Str, x ≠ "__name__" → mb x = bootBuiltins x) (lim : s₁.heap.NoLimit) (gens : s₁.gens = #[])
    (obj : s₁.heap.get? a = some { cls := .type "list", data := .seq vs.toArray }) (nums : IntsAre vs ns) (few : ns.length ≤ sizeLine) (room : Room k callerA)
    (F : ∀ base : Heap, K.In base → base.Ns mainGlobals mg → FnG P w K mg base k fa fd [x] sp)
    (bound : ∀ (s : Shared) (u : Value), BindsTo s fd ⟨[u], []⟩ [(x, u)])
    (prom : ∀ H : Hp, Only H → SqL K H a (ns.map V.int) → sp [.ref a] H (fun v _ => v = .bl true) E0) :
    codeAny (model P w) callerA (.call (.ref fa) ⟨[.ref a], []⟩)
      (fun r s' => r = .ok (.ret (.bool true)) ∧ OldK s₁.heap s'.heap ∧ s'.os = s₁.os ∧ AllBare s'.gens) s₁ := by
  have rel := vals_ints nums
  have inner : ∀ H : Hp, Only H → SqL K H a (ns.map V.int) → HOk P w H s₁.heap → (∀ b, H b ≠ none → b = a) →
      (H a ≠ none → K.lookup a = none) → codeAny (model P w) callerA (.call (.ref fa) ⟨[.ref a], []⟩)
        (fun r s' => r = .ok (.ret (.bool true)) ∧ OldK s₁.heap s'.heap ∧ s'.os = s₁.os ∧ AllBare s'.gens) s₁ := by
    intro H only seq hok alone outK
    have dictFree : ∀ {b : Addr} {o : Obj} {es : Array DictEntry} {ep : Nat}, s₁.heap.get? b = some o → o.data = .dict es ep → H b = none := by
      intro b o es ep e d
      cases q : H b with
      | none => rfl
      | some u =>
        obtain rfl : b = a := alone b (by rw [q]; intro z; cases z)
        rw [obj] at e
        cases e
        cases (show Data.seq vs.toArray _ = Data.dict es ep from d)
    have nsH : ∀ {b : Addr} {m : Str → Option Value}, s₁.heap.Ns b m → (hidT s₁.heap H).Ns b m := by
      rintro b m ⟨o, es, ep, e, d, r⟩
      exact ⟨o, es, ep, hidT_get e (dictFree e d), d, r⟩
    have kH : K.In (hidT s₁.heap H) := by
      intro b o e
      refine hidT_get (inK b o e) ?_
      cases q : H b with
      | none => rfl
      | some u =>
        obtain rfl : b = a := alone b (by rw [q]; intro z; cases z)
        rw [outK (by rw [q]; intro z; cases z)] at e
        cases e
    have limH : (hidT s₁.heap H).NoLimit := by
      obtain ⟨mc, h1, h2⟩ := lim
      exact ⟨mc, nsH h1, h2⟩
    have env : Env0 P w K mg (hidT s₁.heap H) callerA [] s₁ H := by
      refine ⟨rfl, ⟨kH, nsH gl, ⟨mb, nsH bl, bb⟩, limH⟩, fun b o e => of_hidT e, Nat.le_of_eq (hidT_size _ _), trivial, ?_, hok, .of_eq gens⟩
      intro b hb
      cases (show b ∈ ([] : List Addr) from hb)
    have G := F _ kH (nsH gl)
    refine codeAny_mono (G.go callerA [] s₁ H ⟨[.ref a], []⟩ [.ref a] [.ref a] _ _ rfl room env (bound s₁ (.ref a)) (.cons rfl .nil) (prom H only seq)) ?_
    intro r s' h
    cases r with
    | error e => exact False.elim h
    | ok fl => cases fl with
      | next => exact False.elim h
      | brk => exact False.elim h
      | cont => exact False.elim h
      | ret u =>
        obtain ⟨v, H', os, bare, un, hok', r', q⟩ := h
        obtain rfl : v = .bl true := q
        obtain rfl : u = Value.bool true := r'
        refine ⟨rfl, OldK.of_keep ?_, os, bare⟩
        intro b o e
        rcases only b with z | ⟨ob, xs, z⟩
        · exact un.keep b o e z (fun m => by cases (show b ∈ ([] : List Addr) from m)) (fun m => by cases m)
        · obtain ⟨e1, _⟩ := hok b _ z
          obtain ⟨e2, _⟩ := hok' b _ (un.frzs b ob _ z)
          rw [e] at e1
          cases e1
          exact e2
  cases written : K.lookup a with
  | some o =>
    have e := inK a o written
    rw [obj] at e
    cases e
    refine inner (fun _ => none) (fun _ => Or.inl rfl) (Or.inr ⟨_, vs.toArray, _, written, rfl, rfl, rfl, ?_, ?_⟩) (fun b u z => by cases z) (fun b z => absurd rfl z) (fun z => absurd rfl z)
    · rw [List.size_toArray, nums.length]; exact few
    · simpa using rel
  | none =>
    have yes : ∀ b : Addr, b = a → (fun b => if b = a then some (HO.frz { cls := .type "list", data := .seq vs.toArray } (.lst (ns.map V.int))) else none) b = some (HO.frz { cls := .type "list", data := .seq vs.toArray } (.lst (ns.map V.int))) := fun b e => if_pos e
    have no : ∀ b : Addr, b ≠ a → (fun b => if b = a then some (HO.frz { cls := .type "list", data := .seq vs.toArray } (.lst (ns.map V.int))) else none) b = none := fun b e => if_neg e
    refine inner (fun b => if b = a then some (HO.frz { cls := .type "list", data := .seq vs.toArray } (.lst (ns.map V.int))) else none) ?_ (Or.inl (Or.inr ⟨_, yes a rfl⟩)) ?_ ?_ (fun _ => written)
    · intro b
      by_cases same : b = a
      · exact Or.inr ⟨_, _, yes b same⟩
      · exact Or.inl (no b same)
    · intro b u z
      by_cases same : b = a
      · have z' := (yes b same).symm.trans z
        cases z'
        subst same
        exact ⟨obj, by rw [List.length_map]; exact few, vs, _, rel, obj⟩
      · have z' := (no b same).symm.trans z
        cases z'
    · intro b z
      by_cases same : b = a
      · exact same
      · exact absurd (no b same) z

theorem walkG {l : PySem.W.OpenLaw} {n k : Nat} {q : Program} {loose : List Str} {XP : (Str → Option Value) → Heap → Prop} {YP : World → Heap → Prop}
    {d : DefRec} {K : Params → PySem.W.Frag} {sp : PySem.W.Frag → Sp} {x : Str} (most : l.most = some n) (few : n ≤ sizeLine)
    (plain : d.params.defaults = []) (room : Room k callerA) (inK : ∀ (w : World) (h : Heap), YP w h → (K w.params).In h)
    (F : ∀ (w : World) (mg : Str → Option Value) (fa : Addr) (h : Heap), (K w.params).In h → h.Ns mainGlobals mg → mg d.name = some (.ref fa) →
      ∃ fd : FuncData, (∀ (s : Shared) (u : Value), BindsTo s fd ⟨[u], []⟩ [(x, u)]) ∧
        ∀ base : Heap, (K w.params).In base → base.Ns mainGlobals mg → FnG l.prog w (K w.params) mg base k fa fd [x] (sp (K w.params)))
    (prom : ∀ (K : PySem.W.Frag) (H : Hp) (a : Addr) (ns : List Int), ns.length ≤ n → Only H → SqL K H a (ns.map V.int) →
      sp K [.ref a] H (fun v _ => v = .bl true) E0) :
    PySem.W.WalkO q loose XP YP l.row.toRowW d [] (fun f vs => PySem.call f vs) := by
  refine Att.attach_call most plain ?_
  intro w s₀ s₁ mg mb fa o pm cd doc a vs ns G Y ho hd hcd named obj nums len gens
  obtain ⟨fd, bound, hF⟩ := F w mg fa _ (inK w _ Y) G.T.g named
  exact lawG (inK w _ Y) G.T.g G.T.b G.T.builtins G.T.nolimit gens obj nums (Nat.le_trans len few) room hF bound
    (fun H only seq => prom (K w.params) H a ns len only seq)
end SL
namespace SL
open PySem PySem.Spec PyProof.Rows L2
theorem op_powB {X : Cx} : OpR X (binaryOp .Pow) (rI (fun i j => 0 ≤ j ∧ (Builtin.Int.intBits i : Int) * j ≤ 2 ^ 27) fun i j => .int (i ^ j.toNat)) :=
  opI fun _ _ _ _ _ _ _ c q => pow_int c.1 c.2 q

def Da (K : PySem.W.Frag) (H : Hp) (v : V) (d : PyData) : Prop :=
  (Dp K H v d ∧ d.hasDict = false) ∨ ∃ a, v = .ref a ∧ H a = some (.dK []) ∧ d = .dict []
def rRepr (K : PySem.W.Frag) : List V → Hp → VK → Prop := fun xs H Q => ∃ v d, xs = [v] ∧ Da K H v d ∧ d.showable = true ∧ d.depth ≤ 50 ∧
  d.shown.length ≤ sizeLine ∧ Q (.str d.shown) H
theorem call_reprD {X : Cx} (gd : X.A.guards = some []) (hu : X.A.units + 64 < cLine) : CallR X (.builtin "repr") (rRepr X.K) := by
  intro pins s σ H xs us Q I r h
  obtain ⟨v, d, rfl, da, sh, dep, siz, q⟩ := h
  cases r with
  | cons r0 rt =>
    cases rt
    rename_i u
    have big : ∀ (a : Addr) (as : List Addr), Reads s.heap (.ref a) d as → (d.hasDict = true → sysModules ∉ as) → u = .ref a →
        wpAny (model X.prog X.w) X.A (call (.builtin "repr") [u]) (EP X pins σ Q) X.xe s := by
      intro a as rd nd e
      subst e
      refine repr_of_reads' rd sh nd gd (by omega) (fun _ _ e => e) (fun h' u tk kept => ?_) siz
      exact ⟨.str d.shown, H, I.kept kept, ⟨_, rfl⟩, q⟩
    rcases da with ⟨dp, nd⟩ | ⟨a, rfl, ha, rfl⟩
    · obtain ⟨as, rd⟩ := Dp.reads I d v u dp r0
      cases dp with
      | non => cases r0; exact PySem.P.repr_of_none ⟨.str _, H, I.tok _, ⟨_, rfl⟩, q⟩
      | bl b => cases r0; exact PySem.P.repr_of_bool ⟨.str _, H, I.tok _, ⟨_, rfl⟩, q⟩
      | int i =>
        obtain ⟨t, rfl⟩ := r0
        exact PySem.P.repr_of_int (of_decide_eq_true sh) ⟨.str _, H, I.tok _, ⟨_, rfl⟩, q⟩
      | str x =>
        obtain ⟨t, rfl⟩ := r0
        exact PySem.P.repr_of_str (h := ⟨.str _, H, I.tok _, ⟨_, rfl⟩, q⟩) siz
      | lst _ _ => cases r0; exact big _ as rd (fun z => by rw [nd] at z; cases z) rfl
      | tup _ _ => cases r0; exact big _ as rd (fun z => by rw [nd] at z; cases z) rfl
    · cases r0
      obtain ⟨_, ns, vs, kv, o, es, ep, e, ex, dt, rest⟩ := I.hok a _ ha
      cases kv
      have e0 : es.toList = [] := by
        have z := rest.2.1.length
        cases q : es.toList with
        | nil => rfl
        | cons x y => rw [q] at z; cases z
      refine big a ([a]) ?_ (fun _ m => ?_) rfl
      · exact Reads.dict (as := []) (bs := []) e ex.1 dt (by rw [e0]; exact .nil) (by rw [e0]; exact .nil)
      · rw [List.mem_singleton] at m
        rw [← m] at ns
        simp at ns

theorem objGet {P : Program} {w : World} {H : Hp} {h : Heap} {a : Addr} {o : HO} (x : ObjOk P w H h a o) : ∃ u, h.get? a = some u := by
  cases o with
  | lst xs => obtain ⟨_, _, _, _, e⟩ := x; exact ⟨_, e⟩
  | tup xs => obtain ⟨_, _, _, _, e, _⟩ := x; exact ⟨_, e⟩
  | dK kvs => obtain ⟨_, _, _, _, _, _, _, e, _⟩ := x; exact ⟨_, e⟩
  | dT kvs => obtain ⟨_, _, _, _, _, _, _, e, _⟩ := x; exact ⟨_, e⟩
  | set S n => obtain ⟨_, _, _, _, e, _⟩ := x; exact ⟨_, e⟩
  | ins C dx fs => obtain ⟨_, _, _, e, _⟩ := x; exact ⟨_, e⟩
  | own y => exact x
  | xd fs => obtain ⟨_, ⟨_, _, _, e, _⟩, _⟩ := x; exact ⟨_, e⟩
  | rng lo hi => obtain ⟨_, _, _, e⟩ := x; exact ⟨_, e⟩
  | frz ob u => obtain ⟨e, _⟩ := x; exact ⟨_, e⟩
  | tbl ps => exact ⟨_, x⟩
  | met f y => exact ⟨_, x⟩
  | ext φ => obtain ⟨_, e, _⟩ := x; exact e

def rSortT (K : PySem.W.Frag) : List V → Hp → VK → Prop := fun vs H Q => ∃ (a : Addr) (ns : List Int), vs = [V.ref a] ∧ SqT K H a (ns.map V.int) ∧
  ∀ (out : List Int) (p : Addr), out.Perm ns → out.Pairwise (· ≤ ·) → H p = none → Q (.ref p) (upd H p (.lst (out.map V.int)))
theorem cr_sortT {X : Cx} : CallR X (.builtin "sorted") (rSortT X.K) := by
  intro pins s σ H vs us Q I r h
  obtain ⟨a, ns, rfl, hs, q⟩ := h
  obtain ⟨its, rv, ht, hz⟩ := I.tuple hs
  obtain ⟨o, ho, hc, n, hd⟩ := id ht
  rw [Vals.ref1 r]
  have nums := rv.ints
  have hz' : its.length ≤ sizeLine := by rw [← rv.length]; exact hz
  refine Calls.call_function_entry kind_sorted plain_sorted entry_sorted (args_sorted1 _) ?_
  unfold Builtin.«sorted»
  refine wpAny_bind (m := checkCount "sorted" 1 1 _) (wpAny_pure ?_)
  refine wpAny_bind (wpAny_collect_seq a (Or.inr rfl) ho hc hd (fun h1 kept => ?_) (by simpa using hz'))
  refine wpAny_bind (wpAny_newList ?_ (by simpa using hz'))
  have hoL : (h1.push (seqObj "list" its.toArray 0)).get? h1.objs.size = some (seqObj "list" its.toArray 0) := Heap.get?_push_size _ rfl
  have new1 : s.heap.get? h1.objs.size = none := by
    cases q : s.heap.get? h1.objs.size with
    | none => rfl
    | some o => exact absurd (Heap.lt_size (kept _ _ q)) (Nat.lt_irrefl _)
  have new2 : H h1.objs.size = none := by
    cases q : H h1.objs.size with
    | none => rfl
    | some u =>
      obtain ⟨o, z⟩ := objGet (I.hok _ _ q)
      rw [new1] at z
      cases z
  show wpAny _ _ _ _ _ { s with heap := h1.push (seqObj "list" its.toArray 0) }
  refine wpAny_bind (wpAny_holding (wpAny_call_entry slot_list_sort ⟨_, hoL, rfl⟩ entry_list_sort
    (SrtO.list_sort_ord SrtO.swo_int hoL hz' (fun h2 => SrtO.ints_sortable nums h2) fun out hs hb => ⟨_, rfl, ?_⟩) (args_list_sort _)))
  refine wpAny_pure ⟨_, rfl, ?_⟩
  obtain ⟨k1, k2, k3⟩ := SrtO.ints_out nums hs hb
  obtain ⟨ep, he⟩ := sortedHeap_at (vs := its) (out := out.toArray) hoL
  have len : ((out.map SrtO.iv).map V.int).length ≤ sizeLine := by
    rw [List.length_map, k2.length_eq]
    rw [List.length_map] at hz
    exact hz
  refine ⟨.ref h1.objs.size, upd H h1.objs.size (.lst ((out.map SrtO.iv).map V.int)), I.laidN (t' := s.toks) ?_ new1 new2 ⟨len, out, ep, vals_of_ints k1, he⟩, rfl, q _ _ k2 k3 new2⟩
  intro b u hu
  have lt : b < h1.objs.size := Heap.lt_size (kept _ _ hu)
  have lt2 : b < (h1.push (seqObj "list" its.toArray 0)).objs.size := by rw [Heap.size_push]; exact Nat.lt_succ_of_lt lt
  rw [sortedHeap_old (Nat.ne_of_lt lt) lt2]
  exact Heap.get?_push_of_some _ (kept _ _ hu)

def tLenSetT (K : PySem.W.Frag) (ta : TE) : TE := fun σ H Q => ta σ H fun x H1 => ∃ (l : Addr) (ns : List Int), x = .ref l ∧ SqT K H1 l (ns.map V.int) ∧ ns.length ≤ 4000 ∧
  ∀ ks : List Int, ks.Nodup → (∀ k, k ∈ ks ↔ k ∈ ns) → Q (.int (ks.length : Nat)) H1
theorem pe_lenSetT {X : Cx} {a : Expr} {ta : TE} {p p2 q pos : Pos} (g1 : Gl X "len") (m1 : X.mg "len" = none) (g2 : Gl X "set") (m2 : X.mg "set" = none) (ha : PE X a ta)
    (calm : X.calm = true := by rfl) (one : starEach [a] X.env = (false, eval a X.env) :: starEach [] X.env := by rfl) :
    PE X (.Call (.Name "len" p) [.Call (.Name "set" p2) [a] [] q] [] pos) (tLenSetT X.K ta) := by
  constructor
  intro pins s σ H Q I h
  refine Call_ (ld_blt I g1 m1 boot_len ?_)
  refine callWith_builtin1 (args_cons ?_ rfl) rfl rfl
  refine Call_ (ld_blt I g2 m2 boot_set ?_)
  refine callWith_type1 (args_cons (thn (ha.run pins s σ H _ I h) ?_) one) one rfl
  rintro v s1 ⟨x, H1, I1, r1, l, ns, rfl, seq, few, q1⟩
  refine args_nil ?_
  cases r1
  obtain ⟨its, rv, ht, hz⟩ := I1.tuple seq
  refine call_set_tupI ns (I1.ok.hd calm) ht (by simpa using rv.ints) (by unfold scanBound; omega) fun h' tk c hS hc kept => ?_
  refine args_nil ?_
  obtain ⟨o, es, ep, t, ho, ex, dt, _, nd, mem, lt, fits, siz, _⟩ := hS
  have I2 : Inv X pins σ H1 { s1 with heap := h', toks := tk } := I1.kept kept
  have len : (es.toList.map keyOf).length = es.size := by rw [List.length_map, Array.length_toList]
  have few' : (es.size : Int) < 2 ^ 63 := by
    have z : es.size ≤ 4000 := by omega
    omega
  refine call_len_set ho ex dt fits few' ⟨.int es.size, H1, I2.tok _, ⟨_, rfl⟩, ?_⟩
  have z := q1 (es.toList.map keyOf) nd fun k => by rw [← mem k]; simp
  rw [len] at z
  exact z

end SL
namespace SL
open PySem PySem.Spec PyProof.Rows L2 PySem.W PySem.Calls
section
variable {P : Program} {w : World} {A : Around} {E : Value → Shared → Prop} {s : Shared} {a : Addr} {f : Value} {n : Nat} {vs : List Value} {kz : List PyData} {Q : PySem.Fin → Shared → Prop}
end
section
variable {P : Program} {w : World} {A : Around} {E : Value → Shared → Prop} {s : Shared} {r fa : Addr} {hi : Int} {t u v : Tok} {m : Nat} {Q : Value → Shared → Prop} {kz : List PyData}
end
end SL
namespace SL
open PySem PySem.Spec PyProof.Rows L2 LamX
section
variable {X : Cx} {pins : List (Addr × Obj)} {σ : L2.St} {H : Hp} {s : Shared}
end
end SL
namespace SL
open PySem PySem.Spec PyProof.Rows L2 LamX PySem.W
def KeyV (H : Hp) (z : V) (d : PyData) : Prop := (∃ i : Int, z = .int i ∧ d = .int i) ∨ ∃ (t : Addr) (i j : Int), z = .ref t ∧ H t = some (.tup [.int i, .int j]) ∧ d = .tuple [.int i, .int j]
theorem KeyV.same {H H' : Hp} {z : V} {d : PyData} (k : KeyV H z d) (s : Same H H') : KeyV H' z d := by
  rcases k with h | ⟨t, i, j, a, b, c⟩
  · exact Or.inl h
  · exact Or.inr ⟨t, i, j, a, s _ _ b, c⟩
theorem KeyV.reads {P : Program} {w : World} {H : Hp} {h : Heap} {z : V} {u : Value} {d : PyData} (k : KeyV H z d) (ok : HOk P w H h) (r : RelV z u) : ∃ as, Reads h u d as := by
  rcases k with ⟨i, rfl, rfl⟩ | ⟨t, i, j, rfl, ht, rfl⟩
  · obtain ⟨t, rfl⟩ := r
    exact ⟨_, .int i t⟩
  · obtain rfl : u = Value.ref t := r
    obtain ⟨_, its, rv, ob, e, cl, n, dat⟩ := ok t _ ht
    cases rv with
    | cons r1 t1 =>
      cases t1 with
      | cons r2 t2 =>
        cases t2
        obtain ⟨t1, rfl⟩ := r1
        obtain ⟨t2, rfl⟩ := r2
        exact ⟨_, .tuple e cl dat (.cons (.int i t1) (.cons (.int j t2) .nil))⟩
section
variable {X : Cx} {pins : List (Addr × Obj)} {σ : L2.St} {H H0 : Hp} {s s0 : Shared}
end
end SL
namespace SL
open PySem PySem.Spec PyProof.Rows L2 LamX PySem.W
end SL
namespace DL
open PySem PySem.Spec PyProof.Rows L2 LamX PySem.W SL
inductive D where
  | non | bl (b : Bool) | int (i : Int) | str (x : Str) | tup (ds : List D) | tuk (ds : List D) | lst (ds : List D) | scr (ds : List D) | ref (n : Nat)
inductive O where
  | lst (ds : List D)
  | dK (kvs : List (Key × D))
  | dT (kvs : List (List Int × D))
  | lk (ob : Obj) (ys : List (Key × V)) (kvs : List (Key × D))
  | lkT (ob : Obj) (ys : List (List Int × Addr × V)) (kvs : List (List Int × D))
  | ins (C : Addr) (fs : List (Str × D))
abbrev DSt := List O
abbrev DEnv := List (Option D)
abbrev DK := D → DSt → Prop
structure Pl where
  h : Nat
  m : List Addr
def Pl.at_ (M : Pl) (n : Nat) : Option Addr := M.m[M.h + n]?
def Pl.app (M : Pl) (l : List Addr) : Pl := ⟨M.h, M.m ++ l⟩
mutual
inductive RV (K : PySem.W.Frag) (M : Pl) (H : Hp) : D → V → Prop
  | non : RV K M H .non .non
  | bl (b : Bool) : RV K M H (.bl b) (.bl b)
  | int (i : Int) : RV K M H (.int i) (.int i)
  | str (x : Str) : RV K M H (.str x) (.str x)
  | tup {a : Addr} {ob : Obj} {xs : List V} {ds : List D} : a ∉ M.m → H a = some (.frz ob (.tup xs)) → ob.dict = none → RVs K M H ds xs → RV K M H (.tup ds) (.ref a)
  | tuk {a : Addr} {xs : List V} {ds : List D} : a ∉ M.m → H a = some (.tup xs) → RVs K M H ds xs → RV K M H (.tuk ds) (.ref a)
  | lst {a : Addr} {xs : List V} {ds : List D} : a ∉ M.m → H a = some (.lst xs) → RVs K M H ds xs → RV K M H (.lst ds) (.ref a)
  | scr {a : Addr} {xs : List V} {ds : List D} : a ∉ M.m → Rd H a (.lst xs) → RVs K M H ds xs → RV K M H (.scr ds) (.ref a)
  | lsk {a : Addr} {xs : List V} {ds : List D} : (∀ G : Hp, SqL K G a xs) → RVs K M H ds xs → RV K M H (.scr ds) (.ref a)
  | ref {n : Nat} {a : Addr} : M.at_ n = some a → RV K M H (.ref n) (.ref a)
inductive RVs (K : PySem.W.Frag) (M : Pl) (H : Hp) : List D → List V → Prop
  | nil : RVs K M H [] []
  | cons {d : D} {v : V} {ds : List D} {vs : List V} : RV K M H d v → RVs K M H ds vs → RVs K M H (d :: ds) (v :: vs)
end
def NT (H : Hp) (a : Addr) : Prop := ∃ o, H a = some o ∧ ∀ ps, o ≠ .tbl ps
theorem NT.no {H : Hp} {a : Addr} (h : H a = none) : ¬ NT H a := fun ⟨o, e, _⟩ => by rw [h] at e; cases e
theorem NT.upd {H : Hp} {a p : Addr} {o : HO} (h : NT H a) (ne : a ≠ p) : NT (upd H p o) a := by
  obtain ⟨u, e, n⟩ := h
  exact ⟨u, by rw [upd_ne ne]; exact e, n⟩
theorem NT.ne {H : Hp} {a p : Addr} (h : NT H a) (np : H p = none) : a ≠ p := fun z => NT.no np (by rw [← z]; exact h)
structure Grow (M : Pl) (H : Hp) (M' : Pl) (H' : Hp) : Prop where
  more : ∃ m, M' = M.app m ∧ ∀ a ∈ m, ¬ NT H a
  keep : ∀ a o, a ∉ M.m → H a = some o → (∀ ps, o ≠ .tbl ps) → H' a = some o
  there : ∀ a, NT H a → NT H' a
  hid : ∀ a ∈ M.m.take M.h, H' a = H a
theorem Pl.app_nil (M : Pl) : M.app [] = M := by unfold Pl.app; rw [List.append_nil]
theorem Grow.refl (M : Pl) (H : Hp) : Grow M H M H := ⟨⟨[], (Pl.app_nil M).symm, fun _ h => nomatch h⟩, fun _ _ _ h _ => h, fun _ h => h, fun _ _ => rfl⟩
theorem Grow.notin {M M' : Pl} {H H' : Hp} (g : Grow M H M' H') {a : Addr} (h : a ∉ M.m) (t : NT H a) : a ∉ M'.m := by
  obtain ⟨m, rfl, fr⟩ := g.more
  intro z
  rcases List.mem_append.mp z with z | z
  · exact h z
  · exact fr a z t
theorem take_app {M : Pl} {m : List Addr} {a : Addr} (h : a ∈ M.m.take M.h) : a ∈ (M.app m).m.take (M.app m).h := by
  show a ∈ (M.m ++ m).take M.h
  rw [List.take_append]
  exact List.mem_append_left _ h
theorem Grow.trans {M M1 M2 : Pl} {H H1 H2 : Hp} (a : Grow M H M1 H1) (b : Grow M1 H1 M2 H2) : Grow M H M2 H2 := by
  refine ⟨?_, fun c o n h t => ?_, fun c h => b.there c (a.there c h), fun c hc => ?_⟩
  · obtain ⟨m1, rfl, f1⟩ := a.more
    obtain ⟨m2, rfl, f2⟩ := b.more
    refine ⟨m1 ++ m2, by unfold Pl.app; simp, fun c hc => ?_⟩
    rcases List.mem_append.mp hc with z | z
    · exact f1 c z
    · exact fun q => f2 c z (a.there c q)
  · exact b.keep c o (a.notin n ⟨o, h, t⟩) (a.keep c o n h t) t
  · obtain ⟨m1, rfl, f1⟩ := id a.more
    exact (b.hid c (take_app hc)).trans (a.hid c hc)
theorem Grow.get {M M' : Pl} {H H' : Hp} (g : Grow M H M' H') {n : Nat} {a : Addr} (h : M.at_ n = some a) : M'.at_ n = some a := by
  obtain ⟨m, rfl, _⟩ := g.more
  unfold Pl.at_ at h ⊢
  show (M.m ++ m)[M.h + n]? = some a
  rw [List.getElem?_append_left (List.getElem?_eq_some_iff.mp h).1]
  exact h
theorem Pl.at_mem {M : Pl} {n : Nat} {a : Addr} (h : M.at_ n = some a) : a ∈ M.m := List.mem_of_getElem? h

def HidOk (M : Pl) (H : Hp) : Prop := ∀ a ∈ M.m.take M.h, ∃ xs, H a = some (.lst xs)
theorem Grow.new {M : Pl} {H : Hp} {p : Addr} {o : HO} (ho : HidOk M H) (h : H p = none) : Grow M H M (upd H p o) :=
  ⟨⟨[], (Pl.app_nil M).symm, fun _ h => nomatch h⟩, fun a u _ e _ => by rw [upd_ne (ne_of_none e h)]; exact e, fun a e => e.upd (e.ne h), fun a ha => by
    obtain ⟨xs, e⟩ := ho a ha
    exact upd_ne (ne_of_none e h)⟩
theorem Grow.place {M : Pl} {H : Hp} {p : Addr} {o : HO} (ho : HidOk M H) (h : H p = none) : Grow M H (M.app [p]) (upd H p o) :=
  ⟨⟨[p], rfl, fun a ha => by rw [List.mem_singleton.mp ha]; exact NT.no h⟩, (Grow.new ho h).keep, (Grow.new ho h).there, (Grow.new ho h).hid⟩
theorem Grow.write {M : Pl} {H : Hp} {n : Nat} {p : Addr} {o : HO} (nd : M.m.Nodup) (hp : M.at_ n = some p) (no : ∀ ps, o ≠ .tbl ps := by intro ps z; cases z) : Grow M H M (upd H p o) :=
  ⟨⟨[], (Pl.app_nil M).symm, fun _ h => nomatch h⟩, fun a u n e _ => by rw [upd_ne (fun z : a = p => n (by rw [z]; exact Pl.at_mem hp))]; exact e, fun a e => by
    by_cases z : a = p
    · rw [z]; exact ⟨o, upd_same, no⟩
    · exact e.upd z, fun a ha => by
    refine upd_ne fun z => ?_
    subst z
    obtain ⟨i, hi⟩ := List.mem_iff_getElem?.mp ha
    rw [List.getElem?_take] at hi
    split at hi
    · obtain ⟨l1, q1⟩ := List.getElem?_eq_some_iff.mp hi
      obtain ⟨l2, q2⟩ := List.getElem?_eq_some_iff.mp hp
      have := (List.getElem_inj nd).mp (q1.trans q2.symm)
      omega
    · cases hi⟩
theorem Rd.grow {M M' : Pl} {H H' : Hp} (g : Grow M H M' H') {a : Addr} {xs : List V} (n : a ∉ M.m) (r : Rd H a (.lst xs)) : Rd H' a (.lst xs) := by
  rcases r with r | ⟨o, r⟩
  · exact .inl (g.keep a _ n r (fun ps z => by cases z))
  · exact .inr ⟨o, g.keep a _ n r (fun ps z => by cases z)⟩
theorem Rd.there {H : Hp} {a : Addr} {xs : List V} (r : Rd H a (.lst xs)) : NT H a := by
  rcases r with r | ⟨o, r⟩ <;> exact ⟨_, r, fun ps z => by cases z⟩
mutual
theorem RV.grow {K : PySem.W.Frag} {M M' : Pl} {H H' : Hp} (g : Grow M H M' H') : ∀ {d : D} {v : V}, RV K M H d v → RV K M' H' d v
  | _, _, .non => .non
  | _, _, .bl b => .bl b
  | _, _, .int i => .int i
  | _, _, .str x => .str x
  | _, _, .tup n h e r => .tup (g.notin n ⟨_, h, fun ps z => by cases z⟩) (g.keep _ _ n h (fun ps z => by cases z)) e (r.grow g)
  | _, _, .tuk n h r => .tuk (g.notin n ⟨_, h, fun ps z => by cases z⟩) (g.keep _ _ n h (fun ps z => by cases z)) (r.grow g)
  | _, _, .lst n h r => .lst (g.notin n ⟨_, h, fun ps z => by cases z⟩) (g.keep _ _ n h (fun ps z => by cases z)) (r.grow g)
  | _, _, .scr n h r => .scr (g.notin n (Rd.there h)) (Rd.grow g n h) (r.grow g)
  | _, _, .lsk h r => .lsk h (r.grow g)
  | _, _, .ref h => .ref (g.get h)
theorem RVs.grow {K : PySem.W.Frag} {M M' : Pl} {H H' : Hp} (g : Grow M H M' H') : ∀ {d : List D} {v : List V}, RVs K M H d v → RVs K M' H' d v
  | _, _, .nil => .nil
  | _, _, .cons h t => .cons (h.grow g) (t.grow g)
end
def TdO (a : Addr) (o : Obj) : HO := .ext fun h => h.get? a = some o
def hT (k : List Int) : Int := reduceHash (Builtin.Tuple.tupleHashOf (k.map hashInt))
def Td (H : Hp) (a : Addr) (kvs : List (List Int × Addr × V)) : Prop :=
  ∃ (o : Obj) (es : Array DictEntry) (ep : Nat) (xs : List (List Int × Addr × Value)), H a = some (TdO a o) ∧ (a == sysModules) = false ∧ o.ExactDict ∧ o.data = .dict es ep ∧
    es.toList = xs.map (fun x => (⟨hT x.1, .ref x.2.1, x.2.2⟩ : DictEntry)) ∧ (xs.map (·.1)).Nodup ∧ xs.length ≤ sizeLine ∧
    Paired (fun (p : List Int × Addr × V) (q : List Int × Addr × Value) => p.1 = q.1 ∧ p.2.1 = q.2.1 ∧ RelV p.2.2 q.2.2) kvs xs
theorem Td.stay {H H' : Hp} {a : Addr} {kvs : List (List Int × Addr × V)} (h : Td H a kvs) (e : H' a = H a) : Td H' a kvs := by
  obtain ⟨o, es, ep, xs, h1, h2⟩ := h
  exact ⟨o, es, ep, xs, e.trans h1, h2⟩
def TdA (H : Hp) (a : Addr) (o : Obj) (kvs : List (List Int × Addr × V)) : Prop :=
  ∃ (es : Array DictEntry) (ep : Nat) (xs : List (List Int × Addr × Value)), H a = some (TdO a o) ∧ (a == sysModules) = false ∧ o.ExactDict ∧ o.data = .dict es ep ∧
    es.toList = xs.map (fun x => (⟨hT x.1, .ref x.2.1, x.2.2⟩ : DictEntry)) ∧ (xs.map (·.1)).Nodup ∧ xs.length ≤ sizeLine ∧
    Paired (fun (p : List Int × Addr × V) (q : List Int × Addr × Value) => p.1 = q.1 ∧ p.2.1 = q.2.1 ∧ RelV p.2.2 q.2.2) kvs xs
theorem TdA.td {H : Hp} {a : Addr} {o : Obj} {kvs : List (List Int × Addr × V)} (h : TdA H a o kvs) : Td H a kvs := by
  obtain ⟨es, ep, xs, h⟩ := h
  exact ⟨o, es, ep, xs, h⟩
theorem Td.ob {H : Hp} {a : Addr} {kvs : List (List Int × Addr × V)} (h : Td H a kvs) : ∃ o, TdA H a o kvs := by
  obtain ⟨o, es, ep, xs, h⟩ := h
  exact ⟨o, es, ep, xs, h⟩
theorem TdA.stay {H H' : Hp} {a : Addr} {o : Obj} {kvs : List (List Int × Addr × V)} (h : TdA H a o kvs) (e : H' a = H a) : TdA H' a o kvs := by
  obtain ⟨es, ep, xs, h1, h2⟩ := h
  exact ⟨es, ep, xs, e.trans h1, h2⟩
theorem TdO_ne {a : Addr} {o : Obj} {q : Str} {es : Array DictEntry} {ep : Nat} (d : o.data = .dict es ep) : TdO a o ≠ CodeO a q := fun e => by
  unfold TdO CodeO at e
  injection e with e
  have e0 := congrFun e { objs := Array.replicate (a + 1) o }
  have g : Heap.get? { objs := Array.replicate (a + 1) o } a = some o := by
    unfold Heap.get?
    have : (Array.replicate (a + 1) o)[a]? = some o := by rw [Array.getElem?_replicate, if_pos (Nat.lt_succ_self a)]
    simp only [this]
    obtain ⟨_, _, dd, _⟩ := o
    cases d
    rfl
  obtain ⟨oc, vs, t, h1, h2, _⟩ := e0.mp g
  rw [g] at h1
  cases h1
  rw [d] at h2
  cases h2
def Rdt (H : Hp) (a : Addr) (xs : List V) : Prop := H a = some (.tup xs) ∨ ∃ o, H a = some (.frz o (.tup xs)) ∧ o.dict = none
theorem Rdt.rd {H : Hp} {a : Addr} {xs : List V} (r : Rdt H a xs) : Rd H a (.tup xs) := r.elim .inl fun ⟨o, h, _⟩ => .inr ⟨o, h⟩
theorem Rdt.grow {M M' : Pl} {H H' : Hp} (g : Grow M H M' H') {a : Addr} {xs : List V} (n : a ∉ M.m) (r : Rdt H a xs) : Rdt H' a xs := by
  rcases r with r | ⟨o, r, d⟩
  · exact .inl (g.keep a _ n r (fun ps z => by cases z))
  · exact .inr ⟨o, g.keep a _ n r (fun ps z => by cases z), d⟩
theorem Rdt.there {H : Hp} {a : Addr} {xs : List V} (r : Rdt H a xs) : NT H a := by
  rcases r with r | ⟨o, r, _⟩ <;> exact ⟨_, r, fun ps z => by cases z⟩
def TKs (M : Pl) (H : Hp) (ys : List (List Int × Addr × V)) : Prop := ∀ y ∈ ys, y.2.1 ∉ M.m ∧ Rdt H y.2.1 (y.1.map V.int)
theorem TKs.grow {M M' : Pl} {H H' : Hp} (g : Grow M H M' H') {ys : List (List Int × Addr × V)} (h : TKs M H ys) : TKs M' H' ys := fun y hy =>
  ⟨g.notin (h y hy).1 (h y hy).2.there, (h y hy).2.grow g (h y hy).1⟩
def RO (K : PySem.W.Frag) (M : Pl) (H : Hp) : O → Addr → Prop
  | .lst ds, a => ∃ xs, H a = some (.lst xs) ∧ RVs K M H ds xs
  | .dK kvs, a => ∃ ys : List (Key × V), H a = some (.dK ys) ∧ kvs.map (·.1) = ys.map (·.1) ∧ RVs K M H (kvs.map (·.2)) (ys.map (·.2))
  | .dT kvs, a => ∃ ys : List (List Int × Addr × V), Td H a ys ∧ kvs.map (·.1) = ys.map (·.1) ∧ RVs K M H (kvs.map (·.2)) (ys.map (·.2.2)) ∧ TKs M H ys
  | .lk ob ys kvs, a => H a = some (.frz ob (.dK ys)) ∧ kvs.map (·.1) = ys.map (·.1) ∧ RVs K M H (kvs.map (·.2)) (ys.map (·.2))
  | .lkT ob ys kvs, a => TdA H a ob ys ∧ kvs.map (·.1) = ys.map (·.1) ∧ RVs K M H (kvs.map (·.2)) (ys.map (·.2.2)) ∧ TKs M H ys
  | .ins C fs, a => ∃ (dx : Addr) (ys : List (Str × V)), H a = some (.ins C dx ys) ∧ fs.map (·.1) = ys.map (·.1) ∧ RVs K M H (fs.map (·.2)) (ys.map (·.2))
structure RS (T : List (Addr × Str)) (K : PySem.W.Frag) (M : Pl) (st : DSt) (H : Hp) : Prop where
  len : M.m.length = M.h + st.length
  nd : M.m.Nodup
  obj : ∀ (n : Nat) (a : Addr) (o : O), M.at_ n = some a → st[n]? = some o → RO K M H o a
  tabs : Tabs T H
  hid : HidOk M H
structure RE (K : PySem.W.Frag) (M : Pl) (H : Hp) (r : DEnv) (σ : L2.St) : Prop where
  len : r.length = σ.length
  at_ : ∀ (i : Nat) (d : D), r[i]? = some (some d) → ∃ v, σ[i]? = some (some v) ∧ RV K M H d v
theorem RE.grow {K : PySem.W.Frag} {M M' : Pl} {H H' : Hp} {r : DEnv} {σ : L2.St} (h : RE K M H r σ) (g : Grow M H M' H') : RE K M' H' r σ :=
  ⟨h.len, fun i d e => by obtain ⟨v, e1, e2⟩ := h.at_ i d e; exact ⟨v, e1, e2.grow g⟩⟩
theorem RO.stay {K : PySem.W.Frag} {M M' : Pl} {H H' : Hp} (g : Grow M H M' H') {o : O} {a : Addr} (h : RO K M H o a) (e : H' a = H a) : RO K M' H' o a := by
  cases o with
  | lst ds => obtain ⟨xs, h1, h2⟩ := h; exact ⟨xs, e.trans h1, h2.grow g⟩
  | dK kvs => obtain ⟨ys, h1, h2, h3⟩ := h; exact ⟨ys, e.trans h1, h2, h3.grow g⟩
  | dT kvs => obtain ⟨ys, h1, h2, h3, h4⟩ := h; exact ⟨ys, h1.stay e, h2, h3.grow g, h4.grow g⟩
  | lk ob ys kvs => obtain ⟨h1, h2, h3⟩ := h; exact ⟨e.trans h1, h2, h3.grow g⟩
  | lkT ob ys kvs => obtain ⟨h1, h2, h3, h4⟩ := h; exact ⟨h1.stay e, h2, h3.grow g, h4.grow g⟩
  | ins C fs => obtain ⟨dx, ys, h1, h2, h3⟩ := h; exact ⟨dx, ys, e.trans h1, h2, h3.grow g⟩
theorem RO.mut {K : PySem.W.Frag} {M : Pl} {H : Hp} {o : O} {a : Addr} (h : RO K M H o a) : (∃ xs, H a = some (.lst xs)) ∨ (∃ xs, H a = some (.dK xs)) ∨ (∃ ob, H a = some (TdO a ob) ∧ ∃ es ep, ob.data = .dict es ep) ∨ (∃ ob xs, H a = some (.frz ob (.dK xs))) ∨ ∃ C dx xs, H a = some (.ins C dx xs) := by
  cases o with
  | lst ds => obtain ⟨xs, h1, h2⟩ := h; exact .inl ⟨_, h1⟩
  | dK kvs => obtain ⟨ys, h1, h2, h3⟩ := h; exact .inr (.inl ⟨_, h1⟩)
  | dT kvs => obtain ⟨ys, ⟨o, es, ep, xs, h1, _, _, h2, _⟩, _⟩ := h; exact .inr (.inr (.inl ⟨_, h1, _, _, h2⟩))
  | lk ob ys kvs => obtain ⟨h1, h2, h3⟩ := h; exact .inr (.inr (.inr (.inl ⟨_, _, h1⟩)))
  | lkT ob ys kvs => obtain ⟨⟨es, ep, xs, h1, _, _, h2, _⟩, _⟩ := h; exact .inr (.inr (.inl ⟨_, h1, _, _, h2⟩))
  | ins C fs => obtain ⟨dx, ys, h1, h2, h3⟩ := h; exact .inr (.inr (.inr (.inr ⟨_, _, _, h1⟩)))
theorem RS.atM {T : List (Addr × Str)} {K : PySem.W.Frag} {M : Pl} {st : DSt} {H : Hp} (h : RS T K M st H) {n : Nat} {a : Addr} (e : M.at_ n = some a) : ∃ o, st[n]? = some o ∧ RO K M H o a := by
  have lt : n < st.length := by
    have := (List.getElem?_eq_some_iff.mp e).1
    have := h.len
    omega
  exact ⟨st[n], List.getElem?_eq_getElem lt, h.obj n a _ e (List.getElem?_eq_getElem lt)⟩
theorem RS.addr {T : List (Addr × Str)} {K : PySem.W.Frag} {M : Pl} {st : DSt} {H : Hp} (h : RS T K M st H) {n : Nat} {o : O} (e : st[n]? = some o) : ∃ a, M.at_ n = some a ∧ RO K M H o a := by
  have lt : M.h + n < M.m.length := by
    rw [h.len]
    have := (List.getElem?_eq_some_iff.mp e).1
    omega
  exact ⟨M.m[M.h + n], List.getElem?_eq_getElem lt, h.obj n _ o (List.getElem?_eq_getElem lt) e⟩
theorem RS.mutAt {T : List (Addr × Str)} {K : PySem.W.Frag} {M : Pl} {st : DSt} {H : Hp} (h : RS T K M st H) {a : Addr} (ha : a ∈ M.m) : (∃ xs, H a = some (.lst xs)) ∨ (∃ xs, H a = some (.dK xs)) ∨ (∃ ob, H a = some (TdO a ob) ∧ ∃ es ep, ob.data = .dict es ep) ∨ (∃ ob xs, H a = some (.frz ob (.dK xs))) ∨ ∃ C dx xs, H a = some (.ins C dx xs) := by
  obtain ⟨n, hn⟩ := List.mem_iff_getElem?.mp ha
  by_cases lt : n < M.h
  · refine .inl (h.hid a ?_)
    refine List.mem_of_getElem? (i := n) ?_
    rw [List.getElem?_take, if_pos lt]
    exact hn
  · obtain ⟨o, _, ro⟩ := h.atM (n := n - M.h) (a := a) (by
      unfold Pl.at_
      rw [show M.h + (n - M.h) = n by omega]
      exact hn)
    exact ro.mut
theorem RS.tabNe {T : List (Addr × Str)} {K : PySem.W.Frag} {M : Pl} {st : DSt} {H : Hp} (h : RS T K M st H) {a b : Addr} (ha : a ∈ M.m) {u : HO} (hb : H b = some u) (hu : (∃ ps, u = .tbl ps) ∨ ∃ φ, u = CodeO b φ) : a ≠ b := by
  intro z
  subst z
  rcases h.mutAt ha with ⟨xs, q⟩ | ⟨xs, q⟩ | ⟨xs, q, es, ep, d⟩ | ⟨_, xs, q⟩ | ⟨_, _, xs, q⟩ <;> rw [hb] at q <;> rcases hu with ⟨ps, rfl⟩ | ⟨φ, rfl⟩ <;> first | (cases q; done) | exact (TdO_ne d (Option.some.inj q).symm).elim
theorem tabs_upd {T : List (Addr × Str)} {H : Hp} {p : Addr} {o : HO} (t : Tabs T H) (h : ∀ b u, H b = some u → ((∃ ps, u = .tbl ps) ∨ ∃ φ, u = CodeO b φ) → b ≠ p) : Tabs T (upd H p o) := by
  intro q hq
  obtain ⟨ps, h1, h2, h3⟩ := t q hq
  refine ⟨ps, ?_, h2, fun pos cv hc => ?_⟩
  · rw [upd_ne (h _ _ h1 (.inl ⟨ps, rfl⟩))]
    exact h1
  · obtain ⟨c, e1, e2⟩ := h3 pos cv hc
    refine ⟨c, e1, ?_⟩
    rw [upd_ne (h _ _ e2 (.inr ⟨_, rfl⟩))]
    exact e2
theorem RS.notin {T : List (Addr × Str)} {K : PySem.W.Frag} {M : Pl} {st : DSt} {H : Hp} (h : RS T K M st H) {p : Addr} (np : H p = none) : p ∉ M.m := by
  intro z
  rcases h.mutAt z with ⟨xs, q⟩ | ⟨xs, q⟩ | ⟨xs, q, _⟩ | ⟨_, xs, q⟩ | ⟨_, _, xs, q⟩ <;> rw [np] at q <;> cases q
theorem HidOk.upd {M : Pl} {H : Hp} {p : Addr} {o : HO} (h : HidOk M H) (np : H p = none) : HidOk M (upd H p o) := fun a ha => by
  obtain ⟨xs, e⟩ := h a ha
  exact ⟨xs, by rw [upd_ne (ne_of_none e np)]; exact e⟩
theorem HidOk.keep {M M' : Pl} {H H' : Hp} (h : HidOk M H) (g : Grow M H M' H') : HidOk M H' := fun a ha => by
  rw [g.hid a ha]
  exact h a ha
theorem RS.new {T : List (Addr × Str)} {K : PySem.W.Frag} {M : Pl} {st : DSt} {H : Hp} (h : RS T K M st H) {p : Addr} {o : HO} (np : H p = none) : RS T K M st (upd H p o) := by
  refine ⟨h.len, h.nd, fun n a u e1 e2 => ?_, tabs_upd h.tabs fun b u hb _ => ne_of_none hb np, h.hid.upd np⟩
  exact (h.obj n a u e1 e2).stay (Grow.new h.hid np) (upd_ne fun z => h.notin np (by rw [← z]; exact Pl.at_mem e1))
theorem RS.place {T : List (Addr × Str)} {K : PySem.W.Frag} {M : Pl} {st : DSt} {H : Hp} (h : RS T K M st H) {p : Addr} {o : HO} {u : O} (np : H p = none) (ro : RO K (M.app [p]) (upd H p o) u p) : RS T K (M.app [p]) (st ++ [u]) (upd H p o) := by
  refine ⟨?_, ?_, fun n a q e1 e2 => ?_, tabs_upd h.tabs fun b u hb _ => ne_of_none hb np, ?_⟩
  · show (M.m ++ [p]).length = M.h + (st ++ [u]).length
    rw [List.length_append, List.length_append, h.len, Nat.add_assoc]
    rfl
  · show (M.m ++ [p]).Nodup
    rw [List.nodup_append]
    refine ⟨h.nd, by simp, fun a ha b hb => ?_⟩
    rw [List.mem_singleton.mp hb]
    exact fun z => h.notin np (z ▸ ha)
  · have e1' : (M.m ++ [p])[M.h + n]? = some a := e1
    by_cases lt : n < st.length
    · rw [List.getElem?_append_left (by rw [h.len]; omega)] at e1'
      rw [List.getElem?_append_left lt] at e2
      exact (h.obj n a q e1' e2).stay (Grow.place h.hid np) (upd_ne fun z => h.notin np (by rw [← z]; exact List.mem_of_getElem? e1'))
    · rw [List.getElem?_append_right (by rw [h.len]; omega)] at e1'
      rw [List.getElem?_append_right (by omega)] at e2
      have n0 : M.h + n - M.m.length = 0 := by
        have := (List.getElem?_eq_some_iff.mp e1').1
        simp at this
        omega
      have n1 : n - st.length = 0 := by rw [h.len] at n0; omega
      rw [n0] at e1'
      rw [n1] at e2
      cases e1'
      cases e2
      exact ro
  · intro a ha
    have ha' : a ∈ (M.m ++ [p]).take M.h := ha
    rw [List.take_append_of_le_length (by rw [h.len]; omega)] at ha'
    exact h.hid.upd np a ha'
theorem RS.write {T : List (Addr × Str)} {K : PySem.W.Frag} {M : Pl} {st : DSt} {H : Hp} (h : RS T K M st H) {n : Nat} {p : Addr} {o : HO} {u : O} (hp : M.at_ n = some p) (ro : RO K M (upd H p o) u p) (no : ∀ ps, o ≠ .tbl ps := by intro ps z; cases z) : RS T K M (st.set n u) (upd H p o) := by
  have pm : p ∈ M.m := Pl.at_mem hp
  refine ⟨by rw [List.length_set]; exact h.len, h.nd, fun m a q e1 e2 => ?_, tabs_upd h.tabs fun b u hb z => (h.tabNe pm hb z).symm, h.hid.keep (Grow.write h.nd hp no)⟩
  by_cases e : m = n
  · subst e
    rw [hp] at e1
    cases e1
    rw [List.getElem?_set_self (by
      have := (List.getElem?_eq_some_iff.mp hp).1
      have := h.len
      omega)] at e2
    cases e2
    exact ro
  · rw [List.getElem?_set_ne (fun z => e z.symm)] at e2
    refine (h.obj m a q e1 e2).stay (Grow.write h.nd hp no) (upd_ne fun z => e ?_)
    subst z
    obtain ⟨l1, q1⟩ := List.getElem?_eq_some_iff.mp e1
    obtain ⟨l2, q2⟩ := List.getElem?_eq_some_iff.mp hp
    have := (List.getElem_inj h.nd).mp (q1.trans q2.symm)
    omega
end DL
namespace DL
open PySem PySem.Spec PyProof.Rows L2 LamX PySem.W SL
abbrev DTE := DEnv → DSt → DK → Prop
abbrev DTA := DEnv → DSt → (List D → DSt → Prop) → Prop
abbrev DTT := DEnv → DSt → (Bool → DSt → Prop) → Prop
abbrev DR2 := D → D → DSt → DK → Prop
abbrev DRs := List D → DSt → DK → Prop
def Kn (T : List (Addr × Str)) (K : Frag) (M : Pl) (H : Hp) (Q' : DK) (Q : VK) : Prop :=
  ∀ M' H' st' d v, Grow M H M' H' → RS T K M' st' H' → RV K M' H' d v → Q' d st' → Q v H'
theorem Kn.grow {T : List (Addr × Str)} {K : Frag} {M M1 : Pl} {H H1 : Hp} {Q' : DK} {Q : VK} (k : Kn T K M H Q' Q) (g : Grow M H M1 H1) : Kn T K M1 H1 Q' Q :=
  fun M' H' st' d v g1 s r q => k M' H' st' d v (g.trans g1) s r q
theorem Kn.here {T : List (Addr × Str)} {K : Frag} {M : Pl} {H : Hp} {Q' : DK} {Q : VK} {st : DSt} {d : D} {v : V} (k : Kn T K M H Q' Q) (s : RS T K M st H) (r : RV K M H d v) (q : Q' d st) : Q v H :=
  k M H st d v (Grow.refl M H) s r q
def lift (T : List (Addr × Str)) (K : Frag) (f : DTE) : TE := fun σ H Q => ∃ M r st Q', RS T K M st H ∧ RE K M H r σ ∧ f r st Q' ∧ Kn T K M H Q' Q
def liftA (T : List (Addr × Str)) (K : Frag) (f : DTA) : TA := fun σ H Q => ∃ M r st Q', RS T K M st H ∧ RE K M H r σ ∧ f r st Q' ∧
  ∀ M' H' st' ds vs, Grow M H M' H' → RS T K M' st' H' → RVs K M' H' ds vs → Q' ds st' → Q vs H'
def liftT (T : List (Addr × Str)) (K : Frag) (f : DTT) : TT := fun σ H Q => ∃ M r st Q', RS T K M st H ∧ RE K M H r σ ∧ f r st Q' ∧
  ∀ M' H' st' b, Grow M H M' H' → RS T K M' st' H' → Q' b st' → Q b H'
theorem PE.imp {X : Cx} {e : Expr} {t t' : TE} (h : PE X e t) (i : ∀ σ H Q, t' σ H Q → t σ H Q) : PE X e t' := ⟨fun pins s σ H Q I z => h.run pins s σ H Q I (i σ H Q z)⟩
theorem PA.imp {X : Cx} {e : List Expr} {t t' : TA} (h : PA X e t) (i : ∀ σ H Q, t' σ H Q → t σ H Q) : PA X e t' := ⟨fun pos pins s σ H Q I z => h.run pos pins s σ H Q I (i σ H Q z)⟩
theorem PT.imp {X : Cx} {e : Expr} {t t' : TT} (h : PT X e t) (i : ∀ σ H Q, t' σ H Q → t σ H Q) : PT X e t' := ⟨fun pins s σ H Q I z => h.run pins s σ H Q I (i σ H Q z)⟩
theorem PW.imp {X : Cx} {e : Expr} {t t' : TT} (h : PW X e t) (i : ∀ σ H Q, t' σ H Q → t σ H Q) : PW X e t' := ⟨fun wh pins s σ H Q I z => h.run wh pins s σ H Q I (i σ H Q z)⟩
theorem PS.imp {X : Cx} {e : Stmt} {t t' : TS} (h : PS X e t) (i : ∀ D σ H, t' D σ H → t D σ H) : PS X e t' := ⟨fun pins s σ H D I z => h.run pins s σ H D I (i D σ H z)⟩
theorem PSs.imp {X : Cx} {e : List Stmt} {t t' : TS} (h : PSs X e t) (i : ∀ D σ H, t' D σ H → t D σ H) : PSs X e t' := ⟨fun pins s σ H D I z => h.run pins s σ H D I (i D σ H z)⟩
abbrev DE (T : List (Addr × Str)) (X : Cx) (e : Expr) (f : DTE) : Prop := PE X e (lift T X.K f)
abbrev DA (T : List (Addr × Str)) (X : Cx) (e : List Expr) (f : DTA) : Prop := PA X e (liftA T X.K f)
abbrev DT (T : List (Addr × Str)) (X : Cx) (e : Expr) (f : DTT) : Prop := PT X e (liftT T X.K f)
abbrev DW (T : List (Addr × Str)) (X : Cx) (e : Expr) (f : DTT) : Prop := PW X e (liftT T X.K f)

def onI (d : D) (k : Int → Prop) : Prop := match d with | .int i => k i | _ => False
def onB (d : D) (k : Bool → Prop) : Prop := match d with | .bl i => k i | _ => False
def onO {α : Type} (o : Option α) (k : α → Prop) : Prop := match o with | some d => k d | none => False
def onOO (o : Option (Option D)) (k : D → Prop) : Prop := match o with | some (some d) => k d | _ => False
theorem onI.of {d : D} {k : Int → Prop} (h : onI d k) : ∃ i, d = .int i ∧ k i := by
  cases d with
  | int i => exact ⟨i, rfl, h⟩
  | _ => exact h.elim
theorem onB.of {d : D} {k : Bool → Prop} (h : onB d k) : ∃ i, d = .bl i ∧ k i := by
  cases d with
  | bl i => exact ⟨i, rfl, h⟩
  | _ => exact h.elim
theorem onO.of {α : Type} {d : Option α} {k : α → Prop} (h : onO d k) : ∃ i, d = some i ∧ k i := by
  cases d with
  | some i => exact ⟨i, rfl, h⟩
  | none => exact h.elim
theorem onOO.of {d : Option (Option D)} {k : D → Prop} (h : onOO d k) : ∃ i, d = some (some i) ∧ k i := by
  cases d with
  | none => exact h.elim
  | some o => cases o with
    | none => exact h.elim
    | some i => exact ⟨i, rfl, h⟩
def seqS (st : DSt) : D → Option (List D)
  | .tup ds => some ds
  | .tuk ds => some ds
  | .lst ds => some ds
  | .scr ds => some ds
  | .ref n => match st[n]? with | some (.lst ds) => some ds | _ => none
  | _ => none
section
variable {T : List (Addr × Str)} {K : Frag} {M : Pl} {H : Hp} {st : DSt}
theorem RVs.length : ∀ {ds : List D} {vs : List V}, RVs K M H ds vs → ds.length = vs.length
  | _, _, .nil => rfl
  | _, _, .cons _ t => by rw [List.length_cons, List.length_cons, RVs.length t]
theorem RVs.get : ∀ {ds : List D} {vs : List V}, RVs K M H ds vs → ∀ {i : Nat} {d : D}, ds[i]? = some d → ∃ v, vs[i]? = some v ∧ RV K M H d v
  | _, _, .nil, i, d, e => by simp at e
  | _, _, .cons h t, 0, d, e => by
    simp at e
    subst e
    exact ⟨_, rfl, h⟩
  | _, _, .cons h t, i + 1, d, e => by
    obtain ⟨v, e1, e2⟩ := RVs.get t (i := i) (d := d) (by simpa using e)
    exact ⟨v, by simpa using e1, e2⟩
theorem RVs.append : ∀ {ds es : List D} {vs ws : List V}, RVs K M H ds vs → RVs K M H es ws → RVs K M H (ds ++ es) (vs ++ ws)
  | _, _, _, _, .nil, s => s
  | _, _, _, _, .cons h t, s => .cons h (RVs.append t s)
theorem RVs.take : ∀ {ds : List D} {vs : List V} (n : Nat), RVs K M H ds vs → RVs K M H (ds.take n) (vs.take n)
  | _, _, 0, _ => .nil
  | _, _, _ + 1, .nil => .nil
  | _, _, n + 1, .cons h t => .cons h (RVs.take n t)
theorem RVs.drop : ∀ {ds : List D} {vs : List V} (n : Nat), RVs K M H ds vs → RVs K M H (ds.drop n) (vs.drop n)
  | _, _, 0, h => h
  | _, _, _ + 1, .nil => .nil
  | _, _, n + 1, .cons _ t => RVs.drop n t
theorem RVs.set {d : D} {v : V} (h : RV K M H d v) : ∀ {ds : List D} {vs : List V} (n : Nat), RVs K M H ds vs → RVs K M H (ds.set n d) (vs.set n v)
  | _, _, _, .nil => .nil
  | _, _, 0, .cons _ t => .cons h t
  | _, _, n + 1, .cons q t => .cons q (RVs.set h n t)
theorem RVs.eraseIdx : ∀ {ds : List D} {vs : List V} (n : Nat), RVs K M H ds vs → RVs K M H (ds.eraseIdx n) (vs.eraseIdx n)
  | _, _, _, .nil => .nil
  | _, _, 0, .cons _ t => t
  | _, _, n + 1, .cons q t => .cons q (RVs.eraseIdx n t)
theorem RVs.ints : ∀ {ns : List Int} {vs : List V}, RVs K M H (ns.map D.int) vs → vs = ns.map V.int
  | [], _, .nil => rfl
  | n :: ns, _, .cons (.int _) t => by rw [RVs.ints t]; rfl
theorem RVs.of_ints : ∀ ns : List Int, RVs K M H (ns.map D.int) (ns.map V.int)
  | [] => .nil
  | n :: ns => .cons (.int n) (RVs.of_ints ns)
theorem RVs.bls : ∀ {ns : List Bool} {vs : List V}, RVs K M H (ns.map D.bl) vs → vs = ns.map V.bl
  | [], _, .nil => rfl
  | n :: ns, _, .cons (.bl _) t => by rw [RVs.bls t]; rfl
theorem RVs.nil_iff {ds : List D} {vs : List V} (r : RVs K M H ds vs) : ds = [] ↔ vs = [] := by
  cases r with
  | nil => simp
  | cons _ _ => simp
theorem seqS.rd {d : D} {v : V} {ds : List D} (s : RS T K M st H) (r : RV K M H d v) (e : seqS st d = some ds) : ∃ a xs, v = .ref a ∧ (SqL K H a xs ∨ SqT K H a xs) ∧ RVs K M H ds xs := by
  cases r with
  | tup n h q rs => cases e; exact ⟨_, _, rfl, .inr (.inl (.inr ⟨_, h⟩)), rs⟩
  | tuk n h rs => cases e; exact ⟨_, _, rfl, .inr (.inl (.inl h)), rs⟩
  | lst n h rs => cases e; exact ⟨_, _, rfl, .inl (.inl (.inl h)), rs⟩
  | scr n h rs => cases e; exact ⟨_, _, rfl, .inl (.inl h), rs⟩
  | lsk h rs => cases e; exact ⟨_, _, rfl, .inl (h H), rs⟩
  | ref h =>
    obtain ⟨o, e1, ro⟩ := s.atM h
    unfold seqS at e
    simp only [e1] at e
    cases o with
    | lst xs => cases e; obtain ⟨ys, q, rs⟩ := ro; exact ⟨_, ys, rfl, .inl (.inl (.inl q)), rs⟩
    | dK _ => cases e
    | dT _ => cases e
    | lk _ _ _ => cases e
    | lkT _ _ _ => cases e
    | ins _ _ => cases e
  | _ => cases e
end
def dVar (i : Nat) : DTE := fun r st Q => onOO r[i]? fun d => Q d st
def dC (d : D) : DTE := fun _ st Q => Q d st
section
variable {T : List (Addr × Str)} {X : Cx}
theorem de_var {i : Nat} {e : Expr} (h : PE X e (tVar i)) : DE T X e (dVar i) := PE.imp h fun σ H Q ⟨M, r, st, Q', s, re, hf, k⟩ => by
  obtain ⟨d, e, q⟩ := onOO.of hf
  obtain ⟨v, e1, rv⟩ := re.at_ i d e
  exact ⟨v, e1, k.here s rv q⟩
theorem de_const {e : Expr} {d : D} {v : V} (h : PE X e (tC v)) (r : ∀ M H, RV X.K M H d v) : DE T X e (dC d) := PE.imp h fun σ H Q ⟨M, rr, st, Q', s, re, hf, k⟩ => k.here s (r M H) hf
theorem de_int {i j pos} : DE T X (.Constant (.int i) j pos) (dC (.int i)) := de_const pe_int fun _ _ => .int i
theorem de_bl {i j pos} : DE T X (.Constant (.bool i) j pos) (dC (.bl i)) := de_const pe_bl fun _ _ => .bl i
theorem de_non {j pos} : DE T X (.Constant .none j pos) (dC .non) := de_const pe_non fun _ _ => .non
theorem de_str {i j pos} : DE T X (.Constant (.str i) j pos) (dC (.str i)) := de_const pe_str fun _ _ => .str i
theorem de_globI {x : Str} {i : Int} {u : Value} {pos : Pos} (hg : Gl X x) (hm : X.mg x = some u) (r : RelV (.int i) u) (hd : (x == ("__debug__" : Str)) = false := by decide) : DE T X (.Name x pos) (dC (.int i)) :=
  de_const (pe_glob hg hm r hd) fun _ _ => .int i
end
def OpD (T : List (Addr × Str)) (K : Frag) (r : R2) (r' : DR2) : Prop := ∀ (M : Pl) (H : Hp) (st : DSt) (x y : D) (vx vy : V) (Q' : DK) (Q : VK), RS T K M st H → RV K M H x vx → RV K M H y vy → r' x y st Q' → Kn T K M H Q' Q → r vx vy H Q
def dOp (r : DR2) (fa fb : DTE) : DTE := fun ρ st Q => fa ρ st fun x st1 => fb ρ st1 fun y st2 => r x y st2 Q
theorem lift2 {T : List (Addr × Str)} {K : Frag} {r : R2} {r' : DR2} {fa fb : DTE} (o : OpD T K r r') {σ : L2.St} {H : Hp} {Q : VK} (h : lift T K (dOp r' fa fb) σ H Q) : tOp r (lift T K fa) (lift T K fb) σ H Q := by
  obtain ⟨M, ρ, st, Q', s, re, hf, k⟩ := h
  refine ⟨M, ρ, st, _, s, re, hf, fun M1 H1 st1 x vx g1 s1 r1 h1 => ⟨M1, ρ, st1, _, s1, re.grow g1, h1, fun M2 H2 st2 y vy g2 s2 r2 h2 => ?_⟩⟩
  exact o M2 H2 st2 x y vx vy Q' Q s2 (r1.grow g2) r2 h2 (k.grow (g1.trans g2))
section
variable {T : List (Addr × Str)} {X : Cx} {a b c : Expr} {fa fb fc : DTE} {pos : Pos}
theorem de_op {op : Operator} {r : R2} {r' : DR2} (ho : OpR X (binaryOp op) r) (hd : OpD T X.K r r') (ha : DE T X a fa) (hb : DE T X b fb) : DE T X (.BinOp a op b pos) (dOp r' fa fb) :=
  PE.imp (pe_op ho ha hb) fun _ _ _ h => lift2 hd h
theorem de_cmp {op : CmpOp} {r : R2} {r' : DR2} (ho : OpR X (compareOp op) r) (hd : OpD T X.K r r') (ha : DE T X a fa) (hb : DE T X b fb) (hm : behindInMarks op b = false) : DE T X (.Compare a [op] [b] pos) (dOp r' fa fb) :=
  PE.imp (pe_cmpR ho ha hb hm) fun _ _ _ h => lift2 hd h
def dI (C : Int → Int → Prop) (g : Int → Int → D) : DR2 := fun x y st Q => onI x fun i => onI y fun j => C i j ∧ Q (g i j) st
def dI0 (g : Int → Int → D) : DR2 := fun x y st Q => onI x fun i => onI y fun j => Q (g i j) st
theorem opD_I {T : List (Addr × Str)} {K : Frag} {C : Int → Int → Prop} {g : Int → Int → D} {gv : Int → Int → V} (hg : ∀ i j M H, RV K M H (g i j) (gv i j)) : OpD T K (rI C gv) (dI C g) := by
  intro M H st x y vx vy Q' Q s rx ry h k
  obtain ⟨i, rfl, h1⟩ := onI.of h
  obtain ⟨j, rfl, c, h2⟩ := onI.of h1
  cases rx
  cases ry
  exact ⟨i, j, rfl, rfl, c, k.here s (hg i j M H) h2⟩
theorem opD_I0 {T : List (Addr × Str)} {K : Frag} {g : Int → Int → D} {gv : Int → Int → V} (hg : ∀ i j M H, RV K M H (g i j) (gv i j)) : OpD T K (rI0 gv) (dI0 g) := by
  intro M H st x y vx vy Q' Q s rx ry h k
  obtain ⟨i, rfl, h1⟩ := onI.of h
  obtain ⟨j, rfl, h2⟩ := onI.of h1
  cases rx
  cases ry
  exact ⟨i, j, rfl, rfl, k.here s (hg i j M H) h2⟩
abbrev dSub : DR2 := dI0 fun i j => .int (i - j)
abbrev dMod : DR2 := dI (fun _ j => 0 < j) fun i j => .int (i % j)
abbrev dDiv : DR2 := dI CDiv fun i j => .int (i / j)
abbrev dPow : DR2 := dI (fun i j => 0 ≤ j ∧ (Builtin.Int.intBits i : Int) * j ≤ 2 ^ 27) fun i j => .int (i ^ j.toNat)
theorem de_sub (ha : DE T X a fa) (hb : DE T X b fb) : DE T X (.BinOp a .Sub b pos) (dOp dSub fa fb) := de_op op_sub (opD_I0 fun _ _ _ _ => .int _) ha hb
theorem de_mod (ha : DE T X a fa) (hb : DE T X b fb) : DE T X (.BinOp a .Mod b pos) (dOp dMod fa fb) := de_op op_mod (opD_I fun _ _ _ _ => .int _) ha hb
theorem de_div (ha : DE T X a fa) (hb : DE T X b fb) : DE T X (.BinOp a .FloorDiv b pos) (dOp dDiv fa fb) := de_op op_fdiv (opD_I fun _ _ _ _ => .int _) ha hb
theorem de_pow (ha : DE T X a fa) (hb : DE T X b fb) : DE T X (.BinOp a .Pow b pos) (dOp dPow fa fb) := de_op op_powB (opD_I fun _ _ _ _ => .int _) ha hb
abbrev dLe : DR2 := dI0 fun i j => .bl (decide (i ≤ j))
abbrev dGt : DR2 := dI0 fun i j => .bl (decide (j < i))
abbrev dGe : DR2 := dI0 fun i j => .bl (decide (j ≤ i))
def dNeg (fa : DTE) : DTE := fun r st Q => fa r st fun x st1 => onI x fun i => Q (.int (-i)) st1
def isNon : D → Bool
  | .non => true
  | _ => false
theorem RV.isNon {K : Frag} {M : Pl} {H : Hp} {d : D} {v : V} (r : RV K M H d v) : decide (v = V.non) = isNon d := by cases r <;> first | rfl | simp [DL.isNon]
def dIsN (fa : DTE) : DTE := fun r st Q => fa r st fun x st1 => Q (.bl (isNon x)) st1
def dNotN (fa : DTE) : DTE := fun r st Q => fa r st fun x st1 => Q (.bl (!isNon x)) st1
theorem lift_isN {K : Frag} {σ : L2.St} {H : Hp} {Q : VK} (h : lift T K (dIsN fa) σ H Q) : tIsN (lift T K fa) σ H Q := by
  obtain ⟨M, ρ, st, Q', s, re, hf, k⟩ := h
  refine ⟨M, ρ, st, _, s, re, hf, fun M1 H1 st1 x vx g1 s1 r1 h1 => ?_⟩
  show Q (.bl (decide (vx = V.non))) H1
  rw [r1.isNon]
  exact (k.grow g1).here s1 (.bl _) h1
def dAndV (fa fb : DTE) : DTE := fun r st Q => fa r st fun x st1 => onB x fun c => if c = true then fb r st1 Q else Q (.bl false) st1
def dOrV (fa fb : DTE) : DTE := fun r st Q => fa r st fun x st1 => onB x fun c => if c = true then Q (.bl true) st1 else fb r st1 Q
def dNotV (fa : DTE) : DTE := fun r st Q => fa r st fun x st1 => onB x fun c => Q (.bl (!c)) st1
theorem de_one {op} (h : DE T X a fa) : DE T X (.BoolOp op [a] pos) fa := pe_one h
theorem de_and {rest : List Expr} (ha : DE T X a fa) (hb : DE T X (.BoolOp .And (b :: rest) pos) fb) : DE T X (.BoolOp .And (a :: b :: rest) pos) (dAndV fa fb) := PE.imp (pe_and ha hb) fun σ H Q ⟨M, ρ, st, Q', s, re, hf, k⟩ =>
  ⟨M, ρ, st, _, s, re, hf, fun M1 H1 st1 x vx g1 s1 r1 h1 => by
    obtain ⟨c, rfl, h⟩ := onB.of h1
    cases r1
    refine ⟨c, rfl, ?_⟩
    cases c with
    | true => rw [if_pos rfl] at h ⊢; exact ⟨M1, ρ, st1, _, s1, re.grow g1, h, k.grow g1⟩
    | false => rw [if_neg (by decide)] at h ⊢; exact (k.grow g1).here s1 (.bl _) h⟩
theorem de_not (ha : DE T X a fa) : DE T X (.UnaryOp .Not a pos) (dNotV fa) := PE.imp (pe_not ha) fun σ H Q ⟨M, ρ, st, Q', s, re, hf, k⟩ =>
  ⟨M, ρ, st, _, s, re, hf, fun M1 H1 st1 x vx g1 s1 r1 h1 => by
    obtain ⟨c, rfl, h⟩ := onB.of h1
    cases r1
    exact ⟨c, rfl, (k.grow g1).here s1 (.bl _) h⟩⟩
def dTest (fa : DTE) : DTT := fun r st Q => fa r st fun x st1 => onB x fun c => Q c st1
theorem liftT_test {T : List (Addr × Str)} {K : Frag} {fa : DTE} {σ : L2.St} {H : Hp} {Q : Bool → Hp → Prop} (h : liftT T K (dTest fa) σ H Q) : tB (lift T K fa) σ H Q := by
  obtain ⟨M, ρ, st, Q', s, re, hf, k⟩ := h
  refine ⟨M, ρ, st, _, s, re, hf, fun M1 H1 st1 x vx g1 s1 r1 h1 => ?_⟩
  obtain ⟨c, rfl, h⟩ := onB.of h1
  cases r1
  exact ⟨c, rfl, k M1 H1 st1 c g1 s1 h⟩
theorem dt_val (h : DE T X a fa) (he : ∀ whole, isTrue a X.env whole = (do let v ← whole; standAt a.pos; holding [v] (truthy v)) := by intro _; rfl) : DT T X a (dTest fa) := PT.imp (pt_val h he) fun _ _ _ z => liftT_test z
theorem dt_cmpR {op : CmpOp} {r : R2} {r' : DR2} (ho : OpR X (compareOp op) r) (hd : OpD T X.K r r') (ha : DE T X a fa) (hb : DE T X b fb) (hm : behindInMarks op b = false) : DT T X (.Compare a [op] [b] pos) (dTest (dOp r' fa fb)) :=
  PT.imp (pt_cmpR ho ha hb hm) fun σ H Q z => by
    obtain ⟨M, ρ, st, Q', s, re, hf, k⟩ := z
    have z2 : lift T X.K (dOp r' fa fb) σ H (fun x H' => ∃ c, x = .bl c ∧ Q c H') := ⟨M, ρ, st, _, s, re, hf, fun M1 H1 st1 x vx g1 s1 r1 h1 => by
      obtain ⟨c, rfl, h⟩ := onB.of h1
      cases r1
      exact ⟨c, rfl, k M1 H1 st1 c g1 s1 h⟩⟩
    exact lift2 hd z2
theorem dt_cmp {op : CmpOp} {t : TE} {f : DTE} (h : PC X op a b t) (i : ∀ σ H Q, lift T X.K f σ H Q → t σ H Q) (h1 : behindInMarks op b = false := by first | exact nobehind _ (by decide) (by decide) | rfl) : DT T X (.Compare a [op] [b] pos) (dTest f) :=
  PT.imp (pt_cmp h h1) fun σ H Q z => by
    obtain ⟨M, ρ, st, Q', s, re, hf, k⟩ := z
    exact i σ H (fun x H' => ∃ c, x = .bl c ∧ Q c H') ⟨M, ρ, st, _, s, re, hf, fun M1 H1 st1 x vx g1 s1 r1 h1 => by
      obtain ⟨c, rfl, h⟩ := onB.of h1
      cases r1
      exact ⟨c, rfl, k M1 H1 st1 c g1 s1 h⟩⟩
theorem dt_isN {j pos'} (ha : DE T X a fa) : DT T X (.Compare a [.Is] [.Constant .none j pos'] pos) (dTest (dIsN fa)) := dt_cmp (pc_isN ha) fun _ _ _ h => lift_isN h
def dtAnd (t u : DTT) : DTT := fun r st Q => t r st fun c st1 => if c = true then u r st1 Q else Q false st1
def dtOr (t u : DTT) : DTT := fun r st Q => t r st fun c st1 => if c = true then Q true st1 else u r st1 Q
def dtNot (t : DTT) : DTT := fun r st Q => t r st fun c st1 => Q (!c) st1
variable {tA tB' : DTT}
theorem dw_or1 (ha : DT T X a tA) : DW T X (.BoolOp .Or [a] pos) tA := pw_or1 ha
theorem dw_or {rest : List Expr} (ha : DT T X a tA) (hb : DW T X (.BoolOp .Or (b :: rest) pos) tB') : DW T X (.BoolOp .Or (a :: b :: rest) pos) (dtOr tA tB') := PW.imp (pw_or ha hb) fun σ H Q ⟨M, ρ, st, Q', s, re, hf, k⟩ =>
  ⟨M, ρ, st, _, s, re, hf, fun M1 H1 st1 c g1 s1 h => by
    cases c with
    | true => rw [if_pos rfl] at h ⊢; exact k M1 H1 st1 true g1 s1 h
    | false => rw [if_neg (by decide)] at h ⊢; exact ⟨M1, ρ, st1, _, s1, re.grow g1, h, fun M2 H2 st2 b g2 s2 q => k M2 H2 st2 b (g1.trans g2) s2 q⟩⟩
theorem dt_not (ha : DT T X a tA) : DT T X (.UnaryOp .Not a pos) (dtNot tA) := PT.imp (pt_not ha) fun σ H Q ⟨M, ρ, st, Q', s, re, hf, k⟩ =>
  ⟨M, ρ, st, _, s, re, hf, fun M1 H1 st1 c g1 s1 h => k M1 H1 st1 _ g1 s1 h⟩
def dIf (t : DTT) (fa fb : DTE) : DTE := fun r st Q => t r st fun c st1 => if c = true then fa r st1 Q else fb r st1 Q
theorem de_if (hc : DT T X c tA) (ha : DE T X a fa) (hb : DE T X b fb) : DE T X (.IfExp c a b pos) (dIf tA fa fb) := PE.imp (pe_ifExp hc ha hb) fun σ H Q ⟨M, ρ, st, Q', s, re, hf, k⟩ =>
  ⟨M, ρ, st, _, s, re, hf, fun M1 H1 st1 c g1 s1 h => by
    cases c with
    | true => rw [if_pos rfl] at h ⊢; exact ⟨M1, ρ, st1, _, s1, re.grow g1, h, k.grow g1⟩
    | false => rw [if_neg (by decide)] at h ⊢; exact ⟨M1, ρ, st1, _, s1, re.grow g1, h, k.grow g1⟩⟩
def daNil : DTA := fun _ st Q => Q [] st
def daCons (f : DTE) (g : DTA) : DTA := fun r st Q => f r st fun d st1 => g r st1 fun ds st2 => Q (d :: ds) st2
theorem da_nil : DA T X [] daNil := PA.imp pa_nil fun σ H Q ⟨M, ρ, st, Q', s, re, hf, k⟩ => k M H st [] [] (Grow.refl M H) s .nil hf
theorem da_cons {e : Expr} {es : List Expr} {f : DTE} {g : DTA} (ha : DE T X e f) (hr : DA T X es g) (hs : starEach (e :: es) X.env = (false, eval e X.env) :: starEach es X.env := by rfl) : DA T X (e :: es) (daCons f g) :=
  PA.imp (pa_cons ha hr hs) fun σ H Q ⟨M, ρ, st, Q', s, re, hf, k⟩ =>
    ⟨M, ρ, st, _, s, re, hf, fun M1 H1 st1 x vx g1 s1 r1 h1 => ⟨M1, ρ, st1, _, s1, re.grow g1, h1, fun M2 H2 st2 ds vs g2 s2 r2 h2 => k M2 H2 st2 _ _ (g1.trans g2) s2 (.cons (r1.grow g2) r2) h2⟩⟩
end
end DL
namespace DL
open PySem PySem.Spec PyProof.Rows L2 LamX PySem.W SL
theorem vals1 {x : V} {us : List Value} (r : Vals [x] us) : ∃ u, us = [u] ∧ RelV x u := Vals.one r
theorem flat_ints : ∀ ns : List Int, (ns.map V.int).all flatV = true
  | [] => rfl
  | n :: ns => by rw [List.map_cons, List.all_cons, flat_ints ns]; rfl
def FzT (H : Hp) (a : Addr) (xs : List V) : Prop := ∃ o : Obj, H a = some (.frz o (.tup xs)) ∧ o.dict = none
theorem FzT.sq {K : PySem.W.Frag} {H : Hp} {a : Addr} {xs : List V} (h : FzT H a xs) : SqT K H a xs := by
  obtain ⟨o, e, _⟩ := h
  exact Or.inl (Or.inr ⟨o, e⟩)
theorem FzT.same {H H' : Hp} {a : Addr} {xs : List V} (h : FzT H a xs) (s : Same H H') : FzT H' a xs := by
  obtain ⟨o, e, d⟩ := h
  exact ⟨o, s _ _ e, d⟩
def rTupF (K : PySem.W.Frag) : List V → Hp → VK → Prop := fun xs H Q => ∃ p ys, xs = [.ref p] ∧ SqL K H p ys ∧ ∀ (l : Addr) (o : Obj), H l = none → o.dict = none → Q (.ref l) (upd H l (.frz o (.tup ys)))
theorem call_tupF {X : Cx} : CallR X (.type "tuple") (rTupF X.K) := by
  intro pins s σ H xs us Q I r h
  obtain ⟨p, ys, rfl, sq, q⟩ := h
  obtain ⟨u, rfl, rx⟩ := vals1 r
  cases rx
  obtain ⟨its, rv, pl, few⟩ := I.list sq
  have len := rv.length
  refine call_tuple_list pl.isList (fun g kp => ?_) (by rw [List.size_toArray]; omega)
  have I1 : Inv X pins σ H { s with heap := g } := I.kept (t' := s.toks) kp
  have new : (g.push { cls := .type "tuple", data := .seq its.toArray }).get? g.objs.size = some { cls := .type "tuple", data := .seq its.toArray } := Heap.get?_push_size _ rfl
  exact ⟨.ref g.objs.size, _, I1.laid (t' := s.toks) (o := .frz { cls := .type "tuple", data := .seq its.toArray } (.tup ys)) (fun b o e => Heap.get?_push_of_some _ e) (Nat.le_refl _) ⟨new, few, its, rv, _, new, rfl, _, rfl⟩, rfl, q _ _ (I1.hok.fresh (Nat.le_refl _)) rfl⟩
def rIndexT (K : PySem.W.Frag) : V → List V → Hp → VK → Prop := fun x xs H Q => ∃ (p : Addr) (ns : List Int) (z : Int) (j : Nat), x = .ref p ∧ xs = [.int z] ∧ SqT K H p (ns.map V.int) ∧ ns[j]? = some z ∧ (∀ m, m < j → ns[m]? ≠ some z) ∧ Q (.int (j : Nat)) H
theorem mt_tup_indexI {X : Cx} : MtR X "tuple.index" (rIndexT X.K) := by
  intro pins s σ H x xs v us Q I rx rs h
  obtain ⟨p, ns, z, j, rfl, rfl, sq, hj, no, q⟩ := h
  cases rx
  obtain ⟨u, rfl, t, rfl⟩ := vals1 rs
  obtain ⟨its, r, ⟨⟨cls, dd, dt, sl⟩, ho, hc, n, hd⟩, hz⟩ := I.tuple sq
  simp only at hc hd
  subst hc
  subst hd
  have len : its.toArray.size = ns.length := by rw [List.size_toArray, ← r.length, List.length_map]
  have lj : j < its.toArray.size := by rw [len]; exact (List.getElem?_eq_some_iff.mp hj).1
  have item : ∀ (m : Nat) (lm : m < its.toArray.size), ∃ i t', ns[m]? = some i ∧ its.toArray[m] = Value.int i t' := by
    intro m lm
    have lm' : m < ns.length := by omega
    obtain ⟨u, hu, t', e⟩ := r.get (i := m) (x := .int ns[m]) (by simp [lm'])
    refine ⟨ns[m], t', List.getElem?_eq_getElem lm', ?_⟩
    rw [← e, ← (List.getElem?_eq_some_iff.mp hu).2]
    simp
  refine call_meets PySem.F.slot_tuple_index ⟨_, ho, rfl⟩ PySem.F.entry_tuple_index (PySem.F.args_tuple_index_2 _ _) (TI.tuple_indexAt p its.toArray n dd sl (.int z t) (eqU (.int z)) j lj ?_ ?_)
    ⟨ho, fun y hy => mem_eqAt (x := .int z) ⟨t, rfl⟩ rfl r (flat_ints ns) y (by simpa using hy), ⟨.int (j : Nat), H, I.tok _, ⟨_, rfl⟩, q⟩⟩
  · obtain ⟨i, t', h1, h2⟩ := item j lj
    rw [hj] at h1
    cases h1
    rw [h2]
    show (z == z) = true
    exact beq_self_eq_true z
  · intro m lm lt
    obtain ⟨i, t', h1, h2⟩ := item m lm
    rw [h2]
    show (i == z) = false
    refine beq_eq_false_iff_ne.mpr fun e => ?_
    rw [e] at h1
    exact no m lt h1

def rCatF (K : Frag) : R2 := fun x y H Q => ∃ a b xs ys, x = .ref a ∧ y = .ref b ∧ SqT K H a xs ∧ SqT K H b ys ∧ xs.length + ys.length ≤ sizeLine ∧
  (xs = [] → Q (.ref b) H) ∧ (xs ≠ [] → ys = [] → Q (.ref a) H) ∧ (xs ≠ [] → ys ≠ [] → ∀ (p : Addr) (ob : Obj), H p = none → ob.dict = none → Q (.ref p) (upd H p (.frz ob (.tup (xs ++ ys)))))
theorem op_catF {X : Cx} : OpR X (binaryOp .Add) (rCatF X.K) := by
  intro pins s σ H x y v u Q I rx ry h
  obtain ⟨a, b, xs, ys, rfl, rfl, ha, hb, hz, q0, q1, q2⟩ := h
  cases rx
  cases ry
  obtain ⟨its, r1, p1, _⟩ := I.tuple ha
  obtain ⟨its2, r2, p2, _⟩ := I.tuple hb
  by_cases e : xs = []
  · have e' := r1.nil_iff.mpr e
    subst e'
    exact cat_tup0 p1 p2 ⟨.ref b, H, I, rfl, q0 e⟩
  · refine HT.cat_tup p1 p2 (fun z => e (r1.nil_iff.mp z)) (fun z => ⟨.ref a, H, I, rfl, q1 e (r2.nil_iff.mp z)⟩) (fun z => ?_) (by rw [← r1.length, ← r2.length]; exact hz)
    refine ⟨.ref s.heap.objs.size, _, I.laid (t' := s.toks) (o := .frz { cls := .type "tuple", data := .seq (its ++ its2).toArray } (.tup (xs ++ ys))) (fun b ob q => Heap.get?_push_of_some _ q) (Nat.le_refl _) ?_, rfl, q2 e (fun w => z (r2.nil_iff.mpr w)) _ _ (I.hok.fresh (Nat.le_refl _)) rfl⟩
    exact ⟨Heap.get?_push_size _ rfl, by rw [List.length_append]; exact hz, _, r1.append r2, IsTup.new _ _⟩
def rSlF (K : Frag) : V → Option Int → Option Int → Hp → VK → Prop := fun x lo hi H Q => ∃ a xs, x = .ref a ∧ SqT K H a xs ∧
  (HT.sIx xs.length 0 lo = 0 ∧ HT.sIx xs.length xs.length hi = xs.length → Q (.ref a) H) ∧ (¬ (HT.sIx xs.length 0 lo = 0 ∧ HT.sIx xs.length xs.length hi = xs.length) → ∀ (p : Addr) (ob : Obj), H p = none → ob.dict = none → Q (.ref p) (upd H p (.frz ob (.tup (cutV xs lo hi)))))
theorem sl_F {X : Cx} : SlR X (rSlF X.K) := by
  intro pins s σ H x v vl vu lo hi sl Q I rx hs pl pu h
  obtain ⟨a, xs, rfl, hx, qw, q⟩ := h
  cases rx
  obtain ⟨its, r, ht, hz⟩ := I.tuple hx
  have hlen : its.toArray.size = xs.length := by rw [List.size_toArray]; exact r.length.symm
  refine ⟨"tuple", _, PyProof.Rows.slot_tuple_getitem.lookup, ht.typeIs, ?_⟩
  by_cases hw : HT.sIx xs.length 0 lo = 0 ∧ HT.sIx xs.length xs.length hi = xs.length
  · exact getItem_tuple_whole ht hs pl pu (by rw [hlen]; exact hw) ⟨.ref a, H, I, rfl, qw hw⟩
  · refine HT.getItem_tuple_cut ht hs pl pu (by rw [hlen]; exact hw) ?_ (by rw [hlen]; exact hz)
    rw [hlen]
    refine ⟨.ref s.heap.objs.size, _, I.laid (t' := s.toks) (o := .frz { cls := .type "tuple", data := .seq ((its.drop (HT.sIx xs.length 0 lo)).take (HT.sIx xs.length xs.length hi - HT.sIx xs.length 0 lo)).toArray } (.tup (cutV xs lo hi))) (fun b ob q => Heap.get?_push_of_some _ q) (Nat.le_refl _) ?_, rfl, q hw _ _ (I.hok.fresh (Nat.le_refl _)) rfl⟩
    exact ⟨Heap.get?_push_size _ rfl, Nat.le_trans (cutV_length xs lo hi) hz, _, (r.drop (HT.sIx xs.length 0 lo)).take (HT.sIx xs.length xs.length hi - HT.sIx xs.length 0 lo), IsTup.new _ _⟩
end DL
namespace DL
open PySem PySem.Spec PyProof.Rows L2 LamX PySem.W SL
def okLen (ds : List D) (P : Prop) : Prop := match ds with
  | [] => P
  | [_] => P
  | [_, _] => P
  | [_, _, _] => P
  | [_, _, _, _] => P
  | [_, _, _, _, _] => P
  | _ => ds.length ≤ sizeLine ∧ P
theorem okLen.of {ds : List D} {P : Prop} (h : okLen ds P) : ds.length ≤ sizeLine ∧ P := by
  unfold okLen at h
  split at h <;> first | exact h | exact ⟨Nat.le_of_lt (small1000 (by simp)), h⟩
section
variable {T : List (Addr × Str)} {K : Frag} {M : Pl} {H : Hp} {st : DSt} {ds : List D} {xs : List V} {Q' : DK} {Q : VK} {p : Addr}
theorem Kn.tup {ob : Obj} (k : Kn T K M H Q' Q) (s : RS T K M st H) (r : RVs K M H ds xs) (np : H p = none) (hd : ob.dict = none) (q : Q' (.tup ds) st) : Q (.ref p) (upd H p (.frz ob (.tup xs))) :=
  k M _ st _ _ (Grow.new s.hid np) (s.new np) (.tup (s.notin np) upd_same hd (r.grow (Grow.new s.hid np))) q
theorem Kn.tuk (k : Kn T K M H Q' Q) (s : RS T K M st H) (r : RVs K M H ds xs) (np : H p = none) (q : Q' (.tuk ds) st) : Q (.ref p) (upd H p (.tup xs)) :=
  k M _ st _ _ (Grow.new s.hid np) (s.new np) (.tuk (s.notin np) upd_same (r.grow (Grow.new s.hid np))) q
theorem Kn.lst (k : Kn T K M H Q' Q) (s : RS T K M st H) (r : RVs K M H ds xs) (np : H p = none) (q : Q' (.lst ds) st) : Q (.ref p) (upd H p (.lst xs)) :=
  k M _ st _ _ (Grow.new s.hid np) (s.new np) (.lst (s.notin np) upd_same (r.grow (Grow.new s.hid np))) q
theorem Kn.own (k : Kn T K M H Q' Q) (s : RS T K M st H) (r : RVs K M H ds xs) (np : H p = none) (q : Q' (.ref st.length) (st ++ [.lst ds])) : Q (.ref p) (upd H p (.lst xs)) :=
  k (M.app [p]) _ (st ++ [.lst ds]) _ _ (Grow.place s.hid np) (s.place (u := .lst ds) np ⟨xs, upd_same, r.grow (Grow.place s.hid np)⟩) (.ref (by unfold Pl.at_; show (M.m ++ [p])[M.h + st.length]? = some p; rw [← s.len]; simp)) q
end
section
variable {T : List (Addr × Str)} {X : Cx} {a b c : Expr} {es : List Expr} {fa fb fc : DTE} {fs : DTA} {pos : Pos}
def tTupF (t : TA) : TE := fun σ H Q => t σ H fun xs H1 => xs.length ≤ sizeLine ∧ ∀ (p : Addr) (ob : Obj), H1 p = none → ob.dict = none → Q (.ref p) (upd H1 p (.frz ob (.tup xs)))
theorem pe_tupF {t : TA} {x1} (h : PA X es t) : PE X (.Tuple es x1 pos) (tTupF t) := by
  refine ⟨fun pins s σ H Q I hq => ?_⟩
  refine wpAny_Tuple_spliced (thn (h.run pos pins s σ H _ I hq) fun us s1 ⟨xs, H1, I1, r, z, q⟩ => ⟨by rw [← r.length]; exact z, ?_⟩)
  have hf : H1 s1.heap.objs.size = none := I1.hok.fresh (Nat.le_refl _)
  refine ⟨.ref s1.heap.objs.size, _, I1.laid (t' := s1.toks) (o := .frz { cls := .type "tuple", data := .seq us.toArray } (.tup xs)) (fun b u e => Heap.get?_push_of_some _ e) (Nat.le_refl _) ?_, rfl, q _ _ hf rfl⟩
  exact ⟨Heap.get?_push_size _ rfl, z, us, r, ⟨_, Heap.get?_push_size _ rfl, rfl, _, rfl⟩⟩
def dTup (f : DTA) : DTE := fun r st Q => f r st fun ds st1 => okLen ds (Q (.tup ds) st1)
def dLst (f : DTA) : DTE := fun r st Q => f r st fun ds st1 => okLen ds (Q (.lst ds) st1)
def dLstN (f : DTA) : DTE := fun r st Q => f r st fun ds st1 => okLen ds (Q (.ref st1.length) (st1 ++ [.lst ds]))
theorem de_tup {x1} (h : DA T X es fs) : DE T X (.Tuple es x1 pos) (dTup fs) := PE.imp (pe_tupF h) fun σ H Q ⟨M, ρ, st, Q', s, re, hf, k⟩ =>
  ⟨M, ρ, st, _, s, re, hf, fun M1 H1 st1 ds vs g1 s1 r1 h1 => by
    obtain ⟨z, q⟩ := okLen.of h1
    exact ⟨by rw [← r1.length]; exact z, fun p ob np hd => (k.grow g1).tup s1 r1 np hd q⟩⟩
theorem de_lst (h : DA T X es fs) : DE T X (.List es pos) (dLst fs) := PE.imp (pe_lst h) fun σ H Q ⟨M, ρ, st, Q', s, re, hf, k⟩ =>
  ⟨M, ρ, st, _, s, re, hf, fun M1 H1 st1 ds vs g1 s1 r1 h1 => by
    obtain ⟨z, q⟩ := okLen.of h1
    exact ⟨by rw [← r1.length]; exact z, fun p np => (k.grow g1).lst s1 r1 np q⟩⟩
theorem de_lstN (h : DA T X es fs) : DE T X (.List es pos) (dLstN fs) := PE.imp (pe_lst h) fun σ H Q ⟨M, ρ, st, Q', s, re, hf, k⟩ =>
  ⟨M, ρ, st, _, s, re, hf, fun M1 H1 st1 ds vs g1 s1 r1 h1 => by
    obtain ⟨z, q⟩ := okLen.of h1
    exact ⟨by rw [← r1.length]; exact z, fun p np => (k.grow g1).own s1 r1 np q⟩⟩
def CallD (T : List (Addr × Str)) (K : Frag) (r : List V → Hp → VK → Prop) (r' : DRs) : Prop := ∀ (M : Pl) (H : Hp) (st : DSt) (ds : List D) (vs : List V) (Q' : DK) (Q : VK), RS T K M st H → RVs K M H ds vs → r' ds st Q' → Kn T K M H Q' Q → r vs H Q
def dCB (r' : DRs) (fs : DTA) : DTE := fun ρ st Q => fs ρ st fun ds st1 => r' ds st1 Q
theorem lift_cb {K : Frag} {r : List V → Hp → VK → Prop} {r' : DRs} (hd : CallD T K r r') {σ : L2.St} {H : Hp} {Q : VK} (h : lift T K (dCB r' fs) σ H Q) : tCB r (liftA T K fs) σ H Q := by
  obtain ⟨M, ρ, st, Q', s, re, hf, k⟩ := h
  exact ⟨M, ρ, st, _, s, re, hf, fun M1 H1 st1 ds vs g1 s1 r1 h1 => hd M1 H1 st1 ds vs Q' Q s1 r1 h1 (k.grow g1)⟩
theorem de_callB {id : String} {x : Str} {p : Pos} {e : Expr} {r : List V → Hp → VK → Prop} {r' : DRs} (hc : CallR X (.builtin id) r) (hd : CallD T X.K r r') (hg : Gl X x) (hm : X.mg x = none) (hv : bootBuiltins x = some (.builtin id)) (ha : DA T X (e :: es) fs)
    (hn : x ≠ "__name__" := by decide) (hdb : (x == ("__debug__" : Str)) = false := by decide)
    (he : starEach (e :: es) X.env = (false, eval e X.env) :: starEach es X.env := by rfl) (hpl : (backTo pos (starEach es X.env)).any (·.1) = false := by rfl) : DE T X (.Call (.Name x p) (e :: es) [] pos) (dCB r' fs) :=
  PE.imp (pe_callB hc hg hm hv ha hn hdb he hpl) fun _ _ _ h => lift_cb hd h
theorem de_callTy {id : String} {x : Str} {p : Pos} {e : Expr} {r : List V → Hp → VK → Prop} {r' : DRs} (hc : CallR X (.type id) r) (hd : CallD T X.K r r') (hg : Gl X x) (hm : X.mg x = none) (hv : bootBuiltins x = some (.type id)) (ha : DA T X (e :: es) fs)
    (hn : x ≠ "__name__" := by decide) (hdb : (x == ("__debug__" : Str)) = false := by decide)
    (he : starEach (e :: es) X.env = (false, eval e X.env) :: starEach es X.env := by rfl) (hpl : (backTo pos (starEach es X.env)).any (·.1) = false := by rfl) : DE T X (.Call (.Name x p) (e :: es) [] pos) (dCB r' fs) :=
  PE.imp (pe_callTy hc hg hm hv ha hn hdb he hpl) fun _ _ _ h => lift_cb hd h
def on1 (ds : List D) (k : D → Prop) : Prop := match ds with | [x] => k x | _ => False
def on2 (ds : List D) (k : D → D → Prop) : Prop := match ds with | [x, y] => k x y | _ => False
theorem on1.of {ds : List D} {k : D → Prop} (h : on1 ds k) : ∃ x, ds = [x] ∧ k x := by
  match ds, h with
  | [x], h => exact ⟨x, rfl, h⟩
  | [], h => exact h.elim
  | _ :: _ :: _, h => exact h.elim
theorem on2.of {ds : List D} {k : D → D → Prop} (h : on2 ds k) : ∃ x y, ds = [x, y] ∧ k x y := by
  match ds, h with
  | [x, y], h => exact ⟨x, y, rfl, h⟩
  | [], h => exact h.elim
  | [_], h => exact h.elim
  | _ :: _ :: _ :: _, h => exact h.elim
theorem RVs.one {K : Frag} {M : Pl} {H : Hp} {x : D} {vs : List V} (r : RVs K M H [x] vs) : ∃ v, vs = [v] ∧ RV K M H x v := by
  cases r with
  | cons h t => cases t; exact ⟨_, rfl, h⟩
theorem RVs.two {K : Frag} {M : Pl} {H : Hp} {x y : D} {vs : List V} (r : RVs K M H [x, y] vs) : ∃ v w, vs = [v, w] ∧ RV K M H x v ∧ RV K M H y w := by
  cases r with
  | cons h t => obtain ⟨w, rfl, q⟩ := t.one; exact ⟨_, _, rfl, h, q⟩
def dLen : DRs := fun ds st Q => on1 ds fun x => onO (seqS st x) fun xs => Q (.int xs.length) st
theorem callD_len {K : Frag} : CallD T K (fun xs H Q => ∃ p ys, xs = [.ref p] ∧ (SqL K H p ys ∨ SqT K H p ys) ∧ Q (.int ys.length) H) dLen := by
  intro M H st ds vs Q' Q s r h k
  obtain ⟨x, rfl, h⟩ := on1.of h
  obtain ⟨xs, e, h⟩ := onO.of h
  obtain ⟨v, rfl, rv⟩ := r.one
  obtain ⟨p, ys, rfl, sq, rs⟩ := seqS.rd s rv e
  refine ⟨p, ys, rfl, sq, ?_⟩
  rw [← rs.length]
  exact k.here s (.int _) h
def dAbs : DRs := fun ds st Q => on1 ds fun x => onI x fun i => Q (.int (if i < 0 then -i else i)) st
theorem callD_abs {K : Frag} : CallD T K (fun xs H Q => ∃ i, xs = [V.int i] ∧ Q (.int (if i < 0 then -i else i)) H) dAbs := by
  intro M H st ds vs Q' Q s r h k
  obtain ⟨x, rfl, h⟩ := on1.of h
  obtain ⟨i, rfl, h⟩ := onI.of h
  obtain ⟨v, rfl, rv⟩ := r.one
  cases rv
  exact ⟨i, rfl, k.here s (.int _) h⟩
def d2I (g : Int → Int → Int) : DRs := fun ds st Q => on2 ds fun x y => onI x fun i => onI y fun j => Q (.int (g i j)) st
theorem callD_2I {K : Frag} {g : Int → Int → Int} : CallD T K (fun xs H Q => ∃ i j, xs = [V.int i, V.int j] ∧ Q (.int (g i j)) H) (d2I g) := by
  intro M H st ds vs Q' Q s r h k
  obtain ⟨x, y, rfl, h⟩ := on2.of h
  obtain ⟨i, rfl, h⟩ := onI.of h
  obtain ⟨j, rfl, h⟩ := onI.of h
  obtain ⟨v, w, rfl, rv, rw'⟩ := r.two
  cases rv
  cases rw'
  exact ⟨i, j, rfl, k.here s (.int _) h⟩
abbrev dMax2 : DRs := d2I fun i j => if j > i then j else i
abbrev dMin2 : DRs := d2I fun i j => if j < i then j else i
def dTuple : DRs := fun ds st Q => on1 ds fun x => match x with
  | .tup xs => Q (.tup xs) st
  | .tuk xs => Q (.tuk xs) st
  | .lst xs => Q (.tup xs) st
  | .ref n => onO (seqS st (.ref n)) fun xs => Q (.tup xs) st
  | _ => False
def rTup2 (K : Frag) : List V → Hp → VK → Prop := fun xs H Q => rTupF K xs H Q ∨ ∃ a ys, xs = [.ref a] ∧ SqT K H a ys ∧ Q (.ref a) H
theorem call_tup2 : CallR X (.type "tuple") (rTup2 X.K) := CallR.or call_tupF call_tupleT
theorem callD_tup {K : Frag} : CallD T K (rTup2 K) dTuple := by
  intro M H st ds vs Q' Q s r h k
  obtain ⟨x, rfl, h⟩ := on1.of h
  obtain ⟨v, rfl, rv⟩ := r.one
  cases x with
  | tup xs => cases rv with | tup n e q rs => exact .inr ⟨_, _, rfl, .inl (.inr ⟨_, e⟩), k.here s (.tup n e q rs) h⟩
  | tuk xs => cases rv with | tuk n e rs => exact .inr ⟨_, _, rfl, .inl (.inl e), k.here s (.tuk n e rs) h⟩
  | lst xs => cases rv with
    | lst n e rs => exact .inl ⟨_, _, rfl, .inl (.inl e), fun l o nl hd => k.tup s rs nl hd h⟩
  | ref n =>
    obtain ⟨xs, e, h⟩ := onO.of h
    have rr := rv
    cases rv with
    | ref hm =>
      obtain ⟨o, e1, ro⟩ := s.atM hm
      unfold seqS at e
      simp only [e1] at e
      cases o with
      | lst zs => cases e; obtain ⟨ys, q, rs⟩ := ro; exact .inl ⟨_, ys, rfl, .inl (.inl q), fun l o nl hd => k.tup s rs nl hd h⟩
      | dK _ => cases e
      | dT _ => cases e
      | lk _ _ _ => cases e
      | lkT _ _ _ => cases e
      | ins _ _ => cases e
  | _ => exact h.elim
def dListT : DRs := fun ds st Q => on1 ds fun x => onO (seqS st x) fun xs => Q (.lst xs) st
def dListN : DRs := fun ds st Q => on1 ds fun x => onO (seqS st x) fun xs => Q (.ref st.length) (st ++ [.lst xs])
theorem callD_listN {K : Frag} : CallD T K (fun xs H Q => ∃ p ys, xs = [.ref p] ∧ (SqL K H p ys ∨ SqT K H p ys) ∧ ∀ l, H l = none → Q (.ref l) (upd H l (.lst ys))) dListN := by
  intro M H st ds vs Q' Q s r h k
  obtain ⟨x, rfl, h⟩ := on1.of h
  obtain ⟨xs, e, h⟩ := onO.of h
  obtain ⟨v, rfl, rv⟩ := r.one
  obtain ⟨p, ys, rfl, sq, rs⟩ := seqS.rd s rv e
  exact ⟨p, ys, rfl, sq, fun l nl => k.own s rs nl h⟩
def boolsD : List D → Option (List Bool)
  | [] => some []
  | .bl b :: r => (boolsD r).map (b :: ·)
  | _ => none
theorem boolsD_of : ∀ {ds : List D} {bs : List Bool}, boolsD ds = some bs → ds = bs.map D.bl
  | [], bs, h => by cases h; rfl
  | .bl b :: r, bs, h => by
    unfold boolsD at h
    cases q : boolsD r with
    | none => rw [q] at h; cases h
    | some cs => rw [q] at h; cases h; rw [boolsD_of q]; rfl
  | .non :: r, bs, h => by cases h
  | .int _ :: r, bs, h => by cases h
  | .str _ :: r, bs, h => by cases h
  | .tup _ :: r, bs, h => by cases h
  | .tuk _ :: r, bs, h => by cases h
  | .lst _ :: r, bs, h => by cases h
  | .scr _ :: r, bs, h => by cases h
  | .ref _ :: r, bs, h => by cases h
theorem boolsD_map {α : Type} (g : α → Bool) : ∀ xs : List α, boolsD (xs.map fun x => D.bl (g x)) = some (xs.map g)
  | [] => rfl
  | x :: r => by rw [List.map_cons, List.map_cons]; unfold boolsD; rw [boolsD_map g r]; rfl
def dAllR (g : List Bool → Bool) : DRs := fun ds st Q => on1 ds fun x => match x with
  | .lst xs => onO (boolsD xs) fun bs => Q (.bl (g bs)) st
  | _ => False
theorem callD_all {K : Frag} (g : List Bool → Bool) : CallD T K (fun vs H Q => ∃ (a : Addr) (bs : List Bool), vs = [V.ref a] ∧ SqL K H a (bs.map V.bl) ∧ Q (.bl (g bs)) H) (dAllR g) := by
  intro M H st ds vs Q' Q s r h k
  obtain ⟨x, rfl, h⟩ := on1.of h
  obtain ⟨v, rfl, rv⟩ := r.one
  cases x with
  | lst xs =>
    obtain ⟨bs, e, h2⟩ := onO.of h
    have z := boolsD_of e
    subst z
    cases rv with
    | lst n e1 rs => have z := rs.bls; subst z; exact ⟨_, bs, rfl, .inl (.inl e1), k.here s (.bl _) h2⟩
  | _ => exact h.elim
abbrev dAll : DRs := dAllR fun bs => bs.all id
def dIx : DR2 := fun x y st Q => onO (seqS st x) fun ds => onI y fun i => onO (atI ds i) fun d => Q d st
theorem RVs.atI {K : Frag} {M : Pl} {H : Hp} {ds : List D} {xs : List V} (r : RVs K M H ds xs) {i : Int} {d : D} (h : L2.atI ds i = some d) : ∃ v, L2.atI xs i = some v ∧ RV K M H d v := by
  unfold L2.atI at h ⊢
  rw [← r.length]
  cases q : ixN ds.length i with
  | none => rw [q] at h; cases h
  | some j =>
    rw [q] at h
    obtain ⟨v, e, rv⟩ := r.get (i := j) (d := d) h
    exact ⟨v, e, rv⟩
theorem opD_ix {K : Frag} : OpD T K (rIx K) dIx := by
  intro M H st x y vx vy Q' Q s rx ry h k
  obtain ⟨ds, e, h⟩ := onO.of h
  obtain ⟨i, rfl, h⟩ := onI.of h
  obtain ⟨d, e2, h⟩ := onO.of h
  obtain ⟨p, xs, rfl, sq, rs⟩ := seqS.rd s rx e
  cases ry
  obtain ⟨v, e3, rv⟩ := rs.atI e2
  rcases sq with sq | sq
  · exact .inl ⟨p, xs, i, v, rfl, rfl, sq, e3, k.here s rv h⟩
  · exact .inr (.inl ⟨p, xs, i, v, rfl, rfl, sq, e3, k.here s rv h⟩)
theorem de_ix (ha : DE T X a fa) (hb : DE T X b fb) (hs : PlainIx b) : DE T X (.Subscript a b pos) (dOp dIx fa fb) := PE.imp (pe_ix ix_seq ha hb hs) fun _ _ _ h => lift2 opD_ix h
end
end DL
namespace DL
open PySem PySem.Spec PyProof.Rows L2 LamX PySem.W SL
mutual
def pdT : D → Option PyData
  | .non => some .none
  | .bl b => some (.bool b)
  | .int i => some (.int i)
  | .str x => some (.str x)
  | .tup ds => (pdTs ds).map .tuple
  | .tuk ds => (pdTs ds).map .tuple
  | .lst ds => (pdTs ds).map .list
  | .scr ds => (pdTs ds).map .list
  | .ref _ => none
def pdTs : List D → Option (List PyData)
  | [] => some []
  | d :: ds => match pdT d with
    | none => none
    | some p => (pdTs ds).map (p :: ·)
end
def pdS (st : DSt) : D → Option PyData
  | .ref n => match st[n]? with
    | some (.lst ds) => (pdTs ds).map .list
    | _ => none
  | d => pdT d
mutual
theorem pdT_dp {K : Frag} {M : Pl} {H : Hp} : ∀ {d : D} {v : V} {p : PyData}, RV K M H d v → pdT d = some p → Dp K H v p
  | _, _, _, .non, e => by simp only [pdT, Option.some.injEq] at e; subst e; exact .non
  | _, _, _, .bl b, e => by simp only [pdT, Option.some.injEq] at e; subst e; exact .bl b
  | _, _, _, .int b, e => by simp only [pdT, Option.some.injEq] at e; subst e; exact .int b
  | _, _, _, .str b, e => by simp only [pdT, Option.some.injEq] at e; subst e; exact .str b
  | _, _, _, .tup (ds := ds) n h q r, e => by
    simp only [pdT, Option.map_eq_some_iff] at e
    obtain ⟨ps, e, rfl⟩ := e
    exact .tup (.inl (.inr ⟨_, h⟩)) (pdTs_dp r e)
  | _, _, _, .tuk n h r, e => by
    simp only [pdT, Option.map_eq_some_iff] at e
    obtain ⟨ps, e, rfl⟩ := e
    exact .tup (.inl (.inl h)) (pdTs_dp r e)
  | _, _, _, .lst n h r, e => by
    simp only [pdT, Option.map_eq_some_iff] at e
    obtain ⟨ps, e, rfl⟩ := e
    exact .lst (.inl (.inl h)) (pdTs_dp r e)
  | _, _, _, .scr n h r, e => by
    simp only [pdT, Option.map_eq_some_iff] at e
    obtain ⟨ps, e, rfl⟩ := e
    exact .lst (.inl h) (pdTs_dp r e)
  | _, _, _, .lsk h r, e => by
    simp only [pdT, Option.map_eq_some_iff] at e
    obtain ⟨ps, e, rfl⟩ := e
    exact .lst (h H) (pdTs_dp r e)
  | _, _, _, .ref h, e => by simp [pdT] at e
theorem pdTs_dp {K : Frag} {M : Pl} {H : Hp} : ∀ {d : List D} {v : List V} {p : List PyData}, RVs K M H d v → pdTs d = some p → DpAll K H v p
  | _, _, _, .nil, e => by simp only [pdTs, Option.some.injEq] at e; subst e; exact .nil
  | _, _, _, .cons (d := d) h t, e => by
    unfold pdTs at e
    cases q : pdT d with
    | none => rw [q] at e; cases e
    | some y =>
      rw [q] at e
      simp only [Option.map_eq_some_iff] at e
      obtain ⟨ps, e, rfl⟩ := e
      exact .cons (pdT_dp h q) (pdTs_dp t e)
end
theorem pdS_dp {T : List (Addr × Str)} {K : Frag} {M : Pl} {H : Hp} {st : DSt} {d : D} {v : V} {p : PyData} (s : RS T K M st H) (r : RV K M H d v) (e : pdS st d = some p) : Dp K H v p := by
  cases d with
  | ref n =>
    cases r with
    | ref h =>
      obtain ⟨o, e1, ro⟩ := s.atM h
      unfold pdS at e
      simp only [e1] at e
      cases o with
      | lst zs =>
        simp only [Option.map_eq_some_iff] at e
        obtain ⟨ps, e, rfl⟩ := e
        obtain ⟨ys, q, rs⟩ := ro
        exact .lst (.inl (.inl q)) (pdTs_dp rs e)
      | dK _ => cases e
      | dT _ => cases e
      | lk _ _ _ => cases e
      | lkT _ _ _ => cases e
      | ins _ _ => cases e
  | _ => exact pdT_dp r e
mutual
theorem pdT_plain : ∀ {d : D} {p : PyData}, pdT d = some p → p.hasDict = false
  | .non, _, e => by simp only [pdT, Option.some.injEq] at e; subst e; simp [PyData.hasDict]
  | .bl b, _, e => by simp only [pdT, Option.some.injEq] at e; subst e; simp [PyData.hasDict]
  | .int b, _, e => by simp only [pdT, Option.some.injEq] at e; subst e; simp [PyData.hasDict]
  | .str b, _, e => by simp only [pdT, Option.some.injEq] at e; subst e; simp [PyData.hasDict]
  | .tup ds, _, e => by
    simp only [pdT, Option.map_eq_some_iff] at e
    obtain ⟨ps, e, rfl⟩ := e
    simpa [PyData.hasDict] using pdTs_plain e
  | .tuk ds, _, e => by
    simp only [pdT, Option.map_eq_some_iff] at e
    obtain ⟨ps, e, rfl⟩ := e
    simpa [PyData.hasDict] using pdTs_plain e
  | .scr ds, _, e => by
    simp only [pdT, Option.map_eq_some_iff] at e
    obtain ⟨ps, e, rfl⟩ := e
    simpa [PyData.hasDict] using pdTs_plain e
  | .lst ds, _, e => by
    simp only [pdT, Option.map_eq_some_iff] at e
    obtain ⟨ps, e, rfl⟩ := e
    simpa [PyData.hasDict] using pdTs_plain e
  | .ref n, _, e => by simp [pdT] at e
theorem pdTs_plain : ∀ {d : List D} {p : List PyData}, pdTs d = some p → PyData.hasDictAll p = false
  | [], _, e => by simp only [pdTs, Option.some.injEq] at e; subst e; simp [PyData.hasDictAll]
  | d :: ds, _, e => by
    unfold pdTs at e
    cases q : pdT d with
    | none => rw [q] at e; cases e
    | some y =>
      rw [q] at e
      simp only [Option.map_eq_some_iff] at e
      obtain ⟨ps, e, rfl⟩ := e
      simp [PyData.hasDictAll, pdT_plain q, pdTs_plain e]
end
theorem pdS_plain {st : DSt} {d : D} {p : PyData} (e : pdS st d = some p) : p.hasDict = false := by
  cases d with
  | ref n =>
    unfold pdS at e
    simp only at e
    split at e
    · simp only [Option.map_eq_some_iff] at e
      obtain ⟨ps, e, rfl⟩ := e
      simpa [PyData.hasDict] using pdTs_plain e
    · cases e
  | _ => exact pdT_plain e
structure El (k c : Nat) (d : PyData) : Prop where
  sh : d.showable = true
  dp : d.depth ≤ k
  ln : d.shown.length ≤ c
  cl : d.canLay0 = true
theorem El.mono {k c k' c' : Nat} {d : PyData} (h : El k c d) (hk : k ≤ k') (hc : c ≤ c') : El k' c' d := ⟨h.sh, Nat.le_trans h.dp hk, Nat.le_trans h.ln hc, h.cl⟩
theorem el_all {k c : Nat} : ∀ {ds : List PyData}, (∀ x ∈ ds, El k c x) → PyData.showableAll ds = true ∧ PyData.depthAll ds ≤ k ∧ ((PyData.shownAll ds).map (·.length)).sum ≤ ds.length * c ∧ (PyData.shownAll ds).length = ds.length ∧ PyData.canLayAll0 ds = true
  | [], _ => by simp [PyData.showableAll, PyData.depthAll, PyData.shownAll, PyData.canLayAll0]
  | d :: ds, h => by
    obtain ⟨a, b, e, f, g⟩ := el_all (ds := ds) fun x hx => h x (List.mem_cons_of_mem _ hx)
    have h1 := h d List.mem_cons_self
    refine ⟨?_, ?_, ?_, ?_, ?_⟩
    · simp only [PyData.showableAll, h1.sh, a, Bool.and_self]
    · simp only [PyData.depthAll]
      have := h1.dp
      omega
    · simp only [PyData.shownAll, List.map_cons, List.sum_cons, List.length_cons]
      have := h1.ln
      rw [Nat.succ_mul]
      omega
    · simp only [PyData.shownAll, List.length_cons, f]
    · simp only [PyData.canLayAll0, h1.cl, g, Bool.and_self]
theorem el_tuple {k c m : Nat} {ds : List PyData} (h : ∀ x ∈ ds, El k c x) (l : ds.length ≤ m) : El (k + 1) (m * (c + 2) + 3) (.tuple ds) := by
  obtain ⟨a, b, e, f, g⟩ := el_all h
  have z := tupleText_len_le (PyData.shownAll ds)
  have z1 : ds.length * c ≤ m * c := Nat.mul_le_mul_right c l
  refine ⟨by simp only [PyData.showable]; exact a, by simp only [PyData.depth]; omega, ?_, by simp only [PyData.canLay0]; exact g⟩
  simp only [PyData.shown]
  rw [f] at z
  rw [Nat.mul_add]
  omega
theorem el_list {k c m : Nat} {ds : List PyData} (h : ∀ x ∈ ds, El k c x) (l : ds.length ≤ m) : El (k + 1) (m * (c + 2) + 3) (.list ds) := by
  obtain ⟨a, b, e, f, g⟩ := el_all h
  have z := listText_len_le (PyData.shownAll ds)
  have z1 : ds.length * c ≤ m * c := Nat.mul_le_mul_right c l
  refine ⟨by simp only [PyData.showable]; exact a, by simp only [PyData.depth]; omega, ?_, by simp only [PyData.canLay0]; exact g⟩
  simp only [PyData.shown]
  rw [f] at z
  rw [Nat.mul_add]
  omega
theorem el_int {i : Int} (h0 : -100 ≤ i) (h1 : i ≤ 1000) : El 0 20 (.int i) := by
  refine ⟨?_, by simp [PyData.depth], ?_, by simp [PyData.canLay0]⟩
  · simp only [PyData.showable]
    refine decide_eq_true ?_
    have z : i.natAbs ≤ 1000 := by omega
    have y : i.natAbs.log2 ≤ i.natAbs := Nat.log2_le_self _
    omega
  · have all : ((List.range 1101).all fun n => decide ((PyData.shown (.int ((n : Int) - 100))).length ≤ 20)) = true := by decide +kernel
    have z := List.all_eq_true.mp all (i + 100).toNat (List.mem_range.mpr (by omega))
    have e : (((i + 100).toNat : Nat) : Int) - 100 = i := by omega
    rw [e] at z
    exact of_decide_eq_true z
def Sm (k c : Nat) (d : D) : Prop := ∃ p, pdT d = some p ∧ El k c p
theorem Sm.mono {k c k' c' : Nat} {d : D} (h : Sm k c d) (hk : k ≤ k') (hc : c ≤ c') : Sm k' c' d := by
  obtain ⟨p, e, h⟩ := h
  exact ⟨p, e, h.mono hk hc⟩
theorem sm_all {k c : Nat} : ∀ {ds : List D}, (∀ x ∈ ds, Sm k c x) → ∃ ps, pdTs ds = some ps ∧ (∀ x ∈ ps, El k c x) ∧ ps.length = ds.length
  | [], _ => ⟨[], by simp [pdTs], by simp, rfl⟩
  | d :: ds, h => by
    obtain ⟨ps, e, a, l⟩ := sm_all (ds := ds) fun x hx => h x (List.mem_cons_of_mem _ hx)
    obtain ⟨p, e1, a1⟩ := h d List.mem_cons_self
    refine ⟨p :: ps, by simp [pdTs, e1, e], fun x hx => ?_, by simp [l]⟩
    rcases List.mem_cons.mp hx with z | z
    · rw [z]; exact a1
    · exact a x z
theorem sm_tup {k c m : Nat} {ds : List D} (h : ∀ x ∈ ds, Sm k c x) (l : ds.length ≤ m) : Sm (k + 1) (m * (c + 2) + 3) (.tup ds) := by
  obtain ⟨ps, e, a, l2⟩ := sm_all h
  exact ⟨.tuple ps, by simp [pdT, e], el_tuple a (by omega)⟩
theorem sm_lst {k c m : Nat} {ds : List D} (h : ∀ x ∈ ds, Sm k c x) (l : ds.length ≤ m) : Sm (k + 1) (m * (c + 2) + 3) (.lst ds) := by
  obtain ⟨ps, e, a, l2⟩ := sm_all h
  exact ⟨.list ps, by simp [pdT, e], el_list a (by omega)⟩
theorem sm_int {i : Int} (h0 : -100 ≤ i) (h1 : i ≤ 1000) : Sm 0 20 (.int i) := ⟨_, by simp [pdT], el_int h0 h1⟩
theorem Sm.shaped {k c : Nat} {p : PyData} (h : El k c p) (hk : k ≤ 50) : SeqAt.shaped p = true := by
  unfold SeqAt.shaped
  rw [h.cl, Bool.true_and]
  exact decide_eq_true (by have := h.dp; omega)
def dRepr : DRs := fun ds st Q => on1 ds fun x => onO (pdS st x) fun p => (p.showable = true ∧ p.depth ≤ 50 ∧ p.shown.length ≤ sizeLine) ∧ Q (.str p.shown) st
section
variable {T : List (Addr × Str)} {X : Cx} {a b c : Expr} {es : List Expr} {fa fb fc : DTE} {fs : DTA} {pos : Pos} {K : Frag}
theorem callD_repr : CallD T K (rRepr K) dRepr := by
  intro M H st ds vs Q' Q s r h k
  obtain ⟨x, rfl, h⟩ := on1.of h
  obtain ⟨p, e, ⟨h1, h2, h3⟩, h⟩ := onO.of h
  obtain ⟨v, rfl, rv⟩ := r.one
  exact ⟨v, p, rfl, .inl ⟨pdS_dp s rv e, pdS_plain e⟩, h1, h2, h3, k.here s (.str _) h⟩
def dEqD (neg : Bool) : DR2 := fun x y st Q => onO (pdS st x) fun p => onO (pdS st y) fun q => (SeqAt.shaped p = true ∧ SeqAt.shaped q = true) ∧ Q (.bl (if neg then !PyData.eqv p q else PyData.eqv p q)) st
def dEqG (neg : Bool) : DR2 := fun x y st Q => match x, y with
  | .int i, .int j => Q (.bl (if neg then !decide (i = j) else decide (i = j))) st
  | .bl i, .bl j => Q (.bl (if neg then !decide (i = j) else decide (i = j))) st
  | .str i, .str j => Q (.bl (if neg then !decide (i = j) else decide (i = j))) st
  | x, y => dEqD neg x y st Q
def rEq2 (K : Frag) : R2 := fun x y H Q => rEq x y H Q ∨ rEqD K x y H Q
def rNe2 (K : Frag) : R2 := fun x y H Q => rNe x y H Q ∨ rNeD K x y H Q
theorem opD_eq : OpD T K (rEq2 K) (dEqG false) := by
  intro M H st x y vx vy Q' Q s rx ry h k
  have gen : dEqD false x y st Q' → rEq2 K vx vy H Q := fun h => by
    obtain ⟨p, e1, h⟩ := onO.of h
    obtain ⟨q, e2, ⟨h1, h2⟩, h⟩ := onO.of h
    exact .inr ⟨p, q, pdS_dp s rx e1, pdS_dp s ry e2, h1, h2, k.here s (.bl _) h⟩
  unfold dEqG at h
  split at h
  · cases rx
    cases ry
    exact .inl ⟨rfl, by rw [dec_int]; exact k.here s (.bl _) (by simpa [BEq.beq] using h)⟩
  · cases rx
    cases ry
    exact .inl ⟨rfl, by rw [dec_bl]; exact k.here s (.bl _) (by simpa [BEq.beq] using h)⟩
  · cases rx
    cases ry
    refine .inl ⟨rfl, ?_⟩
    rename_i i j
    have e : decide (V.str i = V.str j) = decide (i = j) := by
      by_cases z : i = j
      · rw [z]; simp
      · rw [decide_eq_false z]; exact decide_eq_false fun q => z (by cases q; rfl)
    rw [e]
    exact k.here s (.bl _) h
  · exact gen h
theorem opD_ne : OpD T K (rNe2 K) (dEqG true) := by
  intro M H st x y vx vy Q' Q s rx ry h k
  have gen : dEqD true x y st Q' → rNe2 K vx vy H Q := fun h => by
    obtain ⟨p, e1, h⟩ := onO.of h
    obtain ⟨q, e2, ⟨h1, h2⟩, h⟩ := onO.of h
    exact .inr ⟨p, q, pdS_dp s rx e1, pdS_dp s ry e2, h1, h2, k.here s (.bl _) h⟩
  unfold dEqG at h
  split at h
  · cases rx
    cases ry
    exact .inl ⟨rfl, by rw [dec_int]; exact k.here s (.bl _) (by simpa [BEq.beq] using h)⟩
  · cases rx
    cases ry
    exact .inl ⟨rfl, by rw [dec_bl]; exact k.here s (.bl _) (by simpa [BEq.beq] using h)⟩
  · cases rx
    cases ry
    refine .inl ⟨rfl, ?_⟩
    rename_i i j
    have e : decide (V.str i = V.str j) = decide (i = j) := by
      by_cases z : i = j
      · rw [z]; simp
      · rw [decide_eq_false z]; exact decide_eq_false fun q => z (by cases q; rfl)
    rw [e]
    exact k.here s (.bl _) h
  · exact gen h
abbrev dEq : DR2 := dEqG false
abbrev dNe : DR2 := dEqG true
theorem op_eq2 (hu : X.A.units + 64 < cLine) : OpR X (compareOp .Eq) (rEq2 X.K) := OpR.or op_eq (op_eqD hu)
theorem op_ne2 (hu : X.A.units + 64 < cLine) : OpR X (compareOp .NotEq) (rNe2 X.K) := OpR.or op_ne (op_neD hu)
def flatD : D → Bool
  | .non => true
  | .bl _ => true
  | .int _ => true
  | .str _ => true
  | _ => false
def eqF : D → D → Bool
  | .non, .non => true
  | .bl a, .bl b => a == b
  | .bl a, .int b => (if a then 1 else 0) == b
  | .int a, .bl b => a == (if b then 1 else 0)
  | .int a, .int b => a == b
  | .str a, .str b => a == b
  | _, _ => false
theorem RV.flat {M : Pl} {H : Hp} {d : D} {v : V} (r : RV K M H d v) (h : flatD d = true) : flatV v = true := by cases r <;> first | rfl | cases h
theorem RV.eqF {M : Pl} {H : Hp} {d e : D} {v w : V} (r : RV K M H d v) (q : RV K M H e w) (h1 : flatD d = true) (h2 : flatD e = true) : eqV v w = DL.eqF d e := by
  cases r <;> cases q <;> first | rfl | cases h1 | cases h2
theorem RVs.flat {M : Pl} {H : Hp} : ∀ {ds : List D} {vs : List V}, RVs K M H ds vs → ds.all flatD = true → vs.all flatV = true
  | _, _, .nil, _ => rfl
  | _, _, .cons h t, e => by
    rw [List.all_cons, Bool.and_eq_true] at e ⊢
    exact ⟨h.flat e.1, RVs.flat t e.2⟩
theorem RVs.inF {M : Pl} {H : Hp} {x : D} {v : V} (r : RV K M H x v) (hx : flatD x = true) : ∀ {ds : List D} {vs : List V}, RVs K M H ds vs → ds.all flatD = true → inV v vs = ds.any fun y => DL.eqF y x
  | _, _, .nil, _ => rfl
  | _, _, .cons h t, e => by
    rw [List.all_cons, Bool.and_eq_true] at e
    have z := RVs.inF r hx t e.2
    unfold inV at z ⊢
    rw [List.any_cons, List.any_cons, z, h.eqF r e.1 hx]
def dInG (neg : Bool) : DR2 := fun x y st Q => onO (seqS st y) fun ds => (flatD x = true ∧ ds.all flatD = true) ∧ Q (.bl (if neg then !(ds.any fun y => eqF y x) else ds.any fun y => eqF y x)) st
theorem opD_in (neg : Bool) : OpD T K (rIn K neg) (dInG neg) := by
  intro M H st x y vx vy Q' Q s rx ry h k
  obtain ⟨ds, e, ⟨h1, h2⟩, h⟩ := onO.of h
  obtain ⟨p, xs, rfl, sq, rs⟩ := seqS.rd s ry e
  refine ⟨p, xs, rfl, sq, rx.flat h1, rs.flat h2, ?_⟩
  rw [rs.inF rx h1 h2]
  exact k.here s (.bl _) h
abbrev dIn : DR2 := dInG false
abbrev dNotIn : DR2 := dInG true
def dChain (r r' : DR2) (fa fb fc : DTE) : DTE := fun ρ st Q => fa ρ st fun x st1 => fb ρ st1 fun y st2 => r x y st2 fun z st3 => onB z fun k => if k = true then fc ρ st3 fun w st4 => r' y w st4 Q else Q (.bl false) st3
theorem de_chain {op op' : CmpOp} {r r' : R2} {d d' : DR2} (ho : OpR X (compareOp op) r) (ho' : OpR X (compareOp op') r') (hd : OpD T X.K r d) (hd' : OpD T X.K r' d') (ha : DE T X a fa) (hb : DE T X b fb) (hc : DE T X c fc)
    (hm : lastMarks [op, op'] [b, c] = false := by with_unfolding_all rfl) : DE T X (.Compare a [op, op'] [b, c] pos) (dChain d d' fa fb fc) :=
  PE.imp (pe_chain ho ho' ha hb hc hm) fun σ H Q ⟨M, ρ, st, Q', s, re, hf, k⟩ =>
    ⟨M, ρ, st, _, s, re, hf, fun M1 H1 st1 x vx g1 s1 r1 h1 => ⟨M1, ρ, st1, _, s1, re.grow g1, h1, fun M2 H2 st2 y vy g2 s2 r2 h2 =>
      hd M2 H2 st2 x y vx vy _ _ s2 (r1.grow g2) r2 h2 fun M3 H3 st3 z vz g3 s3 r3 h3 => by
        obtain ⟨kk, rfl, h4⟩ := onB.of h3
        cases r3
        refine ⟨kk, rfl, ?_⟩
        have k3 := ((k.grow g1).grow g2).grow g3
        cases kk with
        | true =>
          rw [if_pos rfl] at h4 ⊢
          exact ⟨M3, ρ, st3, _, s3, ((re.grow g1).grow g2).grow g3, h4, fun M4 H4 st4 w vw g4 s4 r4 h5 => hd' M4 H4 st4 y w vy vw Q' Q s4 ((r2.grow g3).grow g4) r4 h5 (k3.grow g4)⟩
        | false => rw [if_neg (by decide)] at h4 ⊢; exact k3.here s3 (.bl _) h4⟩⟩
end
end DL
namespace DL
open PySem PySem.Spec PyProof.Rows L2 LamX PySem.W SL
structure DEnds where
  nx : DEnv → DSt → Prop
  rt : DK
  bk : DEnv → DSt → Prop := fun _ _ => False
  ct : DEnv → DSt → Prop := fun _ _ => False
abbrev DTS := DEnds → DEnv → DSt → Prop
def KnE (T : List (Addr × Str)) (K : Frag) (M : Pl) (H : Hp) (N : DEnv → DSt → Prop) (N' : L2.St → Hp → Prop) : Prop :=
  ∀ M' H' σ' r' st', Grow M H M' H' → RS T K M' st' H' → RE K M' H' r' σ' → N r' st' → N' σ' H'
structure KnS (T : List (Addr × Str)) (K : Frag) (M : Pl) (H : Hp) (E : DEnds) (E' : Ends) : Prop where
  nx : KnE T K M H E.nx E'.nx
  rt : Kn T K M H E.rt E'.rt
  bk : KnE T K M H E.bk E'.bk
  ct : KnE T K M H E.ct E'.ct
theorem KnE.grow {T : List (Addr × Str)} {K : Frag} {M M1 : Pl} {H H1 : Hp} {N : DEnv → DSt → Prop} {N' : L2.St → Hp → Prop} (k : KnE T K M H N N') (g : Grow M H M1 H1) : KnE T K M1 H1 N N' :=
  fun M' H' σ' r' st' g1 s re q => k M' H' σ' r' st' (g.trans g1) s re q
theorem KnE.here {T : List (Addr × Str)} {K : Frag} {M : Pl} {H : Hp} {N : DEnv → DSt → Prop} {N' : L2.St → Hp → Prop} {σ : L2.St} {r : DEnv} {st : DSt} (k : KnE T K M H N N') (s : RS T K M st H) (re : RE K M H r σ) (q : N r st) : N' σ H :=
  k M H σ r st (Grow.refl M H) s re q
theorem KnS.grow {T : List (Addr × Str)} {K : Frag} {M M1 : Pl} {H H1 : Hp} {E : DEnds} {E' : Ends} (k : KnS T K M H E E') (g : Grow M H M1 H1) : KnS T K M1 H1 E E' := ⟨k.nx.grow g, k.rt.grow g, k.bk.grow g, k.ct.grow g⟩
def liftS (T : List (Addr × Str)) (K : Frag) (F : DTS) : TS := fun E σ H => ∃ M r st E', RS T K M st H ∧ RE K M H r σ ∧ F E' r st ∧ KnS T K M H E' E
abbrev DSt1 (T : List (Addr × Str)) (X : Cx) (s : Stmt) (F : DTS) : Prop := PS X s (liftS T X.K F)
abbrev DSs (T : List (Addr × Str)) (X : Cx) (s : List Stmt) (F : DTS) : Prop := PSs X s (liftS T X.K F)
def sNext : DTS := fun E r st => E.nx r st
def sSeq (F G : DTS) : DTS := fun E r st => F { E with nx := G E } r st
def sNever : DTS := fun _ _ _ => False
def sDrop (f : DTE) : DTS := fun E r st => f r st fun _ st1 => E.nx r st1
def sRet (f : DTE) : DTS := fun E r st => f r st E.rt
def sRetN : DTS := fun E _ st => E.rt .non st
def sIf (t : DTT) (F G : DTS) : DTS := fun E r st => t r st fun b st1 => if b = true then F E r st1 else G E r st1
section
variable {T : List (Addr × Str)} {X : Cx} {st : Stmt} {rest : List Stmt} {F G : DTS} {e : Expr} {f : DTE} {pos : Pos}
theorem ds_nil : DSs T X [] sNext := PSs.imp pss_nil fun E σ H ⟨M, r, st, E', s, re, h, k⟩ => k.nx.here s re h
theorem ds_cons (h1 : DSt1 T X st F) (h2 : DSs T X rest G) : DSs T X (st :: rest) (sSeq F G) := PSs.imp (pss_cons h1 h2) fun E σ H ⟨M, r, st, E', s, re, h, k⟩ =>
  ⟨M, r, st, _, s, re, h, fun M1 H1 σ1 r1 st1 g1 s1 re1 q => ⟨M1, r1, st1, E', s1, re1, q, k.grow g1⟩, k.rt, k.bk, k.ct⟩
theorem ds_one (h1 : DSt1 T X st F) : DSs T X [st] F := pss_one h1
theorem ds_never : DSt1 T X st sNever := PS.imp ps_never fun E σ H ⟨M, r, st, E', s, re, h, k⟩ => h.elim
theorem ds_expr (he : DE T X e f) (hs : swapsWith e none pos.line X.env = pure false := by rfl) : DSt1 T X (.Expr e pos) (sDrop f) := PS.imp (ps_expr he hs) fun E σ H ⟨M, r, st, E', s, re, h, k⟩ =>
  ⟨M, r, st, _, s, re, h, fun M1 H1 st1 d v g1 s1 r1 q => k.nx M1 H1 σ r st1 g1 s1 (re.grow g1) q⟩
theorem ds_ret (he : DE T X e f) : DSt1 T X (.Return (some e) pos) (sRet f) := PS.imp (ps_ret he) fun E σ H ⟨M, r, st, E', s, re, h, k⟩ => ⟨M, r, st, _, s, re, h, k.rt⟩
theorem ds_if {c : Expr} {a b : List Stmt} {t : DTT} (hc : DT T X c t) (ha : DSs T X a F) (hb : DSs T X b G) : DSt1 T X (.If c a b pos) (sIf t F G) := PS.imp (ps_if hc ha hb) fun E σ H ⟨M, r, st, E', s, re, h, k⟩ =>
  ⟨M, r, st, _, s, re, h, fun M1 H1 st1 c g1 s1 q => by
    cases c with
    | true => rw [if_pos rfl] at q ⊢; exact ⟨M1, r, st1, E', s1, re.grow g1, q, k.grow g1⟩
    | false => rw [if_neg (by decide)] at q ⊢; exact ⟨M1, r, st1, E', s1, re.grow g1, q, k.grow g1⟩⟩
end
abbrev DTG := D → DEnv → DSt → (DEnv → DSt → Prop) → Prop
abbrev DTGs := List D → DEnv → DSt → (DEnv → DSt → Prop) → Prop
def liftG (T : List (Addr × Str)) (K : Frag) (vs : List Nat) (g : DTG) : TG := fun v σ H Q => ∃ M r st d Q', RS T K M st H ∧ RE K M H r σ ∧ RV K M H d v ∧ g d r st Q' ∧
  ∀ M' H' σ' r' st', Grow M H M' H' → RS T K M' st' H' → RE K M' H' r' σ' → wipe σ' vs = wipe σ vs → Q' r' st' → Q σ' H'
def liftGs (T : List (Addr × Str)) (K : Frag) (vs : List Nat) (g : DTGs) : TGs := fun v σ H Q => ∃ M r st d Q', RS T K M st H ∧ RE K M H r σ ∧ RVs K M H d v ∧ g d r st Q' ∧
  ∀ M' H' σ' r' st', Grow M H M' H' → RS T K M' st' H' → RE K M' H' r' σ' → wipe σ' vs = wipe σ vs → Q' r' st' → Q σ' H'
theorem PG.imp {X : Cx} {e : Expr} {t t' : TG} (h : PG X e t) (i : ∀ v σ H Q, t' v σ H Q → t v σ H Q) : PG X e t' := ⟨fun pins s σ H v u Q I r z => h.run pins s σ H v u Q I r (i v σ H Q z)⟩
theorem PGs.imp {X : Cx} {e : List Expr} {t t' : TGs} (h : PGs X e t) (i : ∀ v σ H Q, t' v σ H Q → t v σ H Q) : PGs X e t' := ⟨fun pins s σ H v u Q I r z => h.run pins s σ H v u Q I r (i v σ H Q z)⟩
abbrev DG (T : List (Addr × Str)) (X : Cx) (vs : List Nat) (e : Expr) (g : DTG) : Prop := PG X e (liftG T X.K vs g)
abbrev DGs (T : List (Addr × Str)) (X : Cx) (vs : List Nat) (e : List Expr) (g : DTGs) : Prop := PGs X e (liftGs T X.K vs g)
theorem RE.set {K : Frag} {M : Pl} {H : Hp} {r : DEnv} {σ : L2.St} (h : RE K M H r σ) (i : Nat) {d : D} {v : V} (rv : RV K M H d v) : RE K M H (r.set i (some d)) (σ.set i (some v)) := by
  refine ⟨by rw [List.length_set, List.length_set]; exact h.len, fun j c e => ?_⟩
  by_cases q : j = i
  · subst q
    have lt : j < r.length := by
      have := (List.getElem?_eq_some_iff.mp e).1
      rw [List.length_set] at this
      exact this
    rw [List.getElem?_set_self lt] at e
    cases e
    exact ⟨v, List.getElem?_set_self (by rw [← h.len]; exact lt), rv⟩
  · rw [List.getElem?_set_ne (fun z => q z.symm)] at e ⊢
    exact h.at_ j c e
theorem wipe_set {σ : L2.St} {i : Nat} {x : Option V} : ∀ {vs : List Nat}, i ∈ vs → wipe (σ.set i x) vs = wipe σ vs
  | [], h => by cases h
  | v :: vs, h => by
    show (wipe (σ.set i x) vs).set v none = (wipe σ vs).set v none
    by_cases m : i ∈ vs
    · rw [wipe_set m]
    · rcases List.mem_cons.mp h with z | z
      · subst z
        have gen : ∀ (ws : List Nat) (τ : L2.St), i ∉ ws → wipe (τ.set i x) ws = (wipe τ ws).set i x := by
          intro ws
          induction ws with
          | nil => intro τ _; rfl
          | cons w ws ih =>
            intro τ hn
            rw [List.mem_cons, not_or] at hn
            show (wipe (τ.set i x) ws).set w none = ((wipe τ ws).set w none).set i x
            rw [ih τ hn.2, List.set_comm _ _ hn.1]
        rw [gen vs σ m, List.set_set]
      · exact absurd z m
def gNm (i : Nat) : DTG := fun d r st Q => Q (r.set i (some d)) st
def gsNil : DTGs := fun ds r st Q => match ds with | [] => Q r st | _ => False
def gsCons (g : DTG) (h : DTGs) : DTGs := fun ds r st Q => match ds with | d :: e => g d r st fun r1 st1 => h e r1 st1 Q | [] => False
def gTp (n : Nat) (g : DTGs) : DTG := fun d r st Q => match d with
  | .tup ds => ds.length = n ∧ g ds r st Q
  | .tuk ds => ds.length = n ∧ g ds r st Q
  | .lst ds => ds.length = n ∧ g ds r st Q
  | _ => False
theorem PG.or {X : Cx} {e : Expr} {t t' : TG} (h : PG X e t) (h' : PG X e t') : PG X e fun v σ H Q => t v σ H Q ∨ t' v σ H Q := ⟨fun pins s σ H v u Q I r z => by
  rcases z with z | z
  · exact h.run pins s σ H v u Q I r z
  · exact h'.run pins s σ H v u Q I r z⟩
section
variable {T : List (Addr × Str)} {X : Cx} {vs : List Nat} {pos : Pos}
theorem dg_name {i : Nat} {x : Str} (hN : X.N.Nodup) (hi : X.N[i]? = some x) (hx : Loc X.env.scope x) (m : i ∈ vs) (hf : X.fn x = true ∨ X.env.scope.names.lookup x = some .local := by first | exact .inl rfl | exact .inr rfl | assumption) : DG T X vs (.Name x pos) (gNm i) :=
  PG.imp (pg_name hN hi hx hf) fun v σ H Q ⟨M, r, st, d, Q', s, re, rv, h, k⟩ => k M H _ _ st (Grow.refl M H) s (re.set i rv) (wipe_set m) h
theorem dgs_nil : DGs T X vs [] gsNil := PGs.imp pgs_nil fun v σ H Q ⟨M, r, st, d, Q', s, re, rv, h, k⟩ => by
  cases d with
  | nil => cases rv; exact ⟨rfl, k M H σ r st (Grow.refl M H) s re rfl h⟩
  | cons _ _ => exact h.elim
theorem dgs_cons {e : Expr} {es : List Expr} {g : DTG} {h : DTGs} (h1 : DG T X vs e g) (h2 : DGs T X vs es h) (hs : (assignEach (e :: es) X.env).map (·.2) = assign e X.env :: (assignEach es X.env).map (·.2) := by rfl) : DGs T X vs (e :: es) (gsCons g h) :=
  PGs.imp (pgs_cons h1 h2 hs) fun v σ H Q ⟨M, r, st, d, Q', s, re, rv, h, k⟩ => by
    cases d with
    | nil => exact h.elim
    | cons d ds =>
      cases rv with
      | cons r1 rs => exact ⟨_, _, rfl, M, r, st, d, _, s, re, r1, h, fun M1 H1 σ1 r1' st1 g1 s1 re1 w1 q => ⟨M1, r1', st1, ds, Q', s1, re1, rs.grow g1, q, fun M2 H2 σ2 r2 st2 g2 s2 re2 w2 q2 => k M2 H2 σ2 r2 st2 (g1.trans g2) s2 re2 (w2.trans w1) q2⟩⟩
theorem dg_tup {es : List Expr} {k : Nat} {g : DTGs} {n : Nat} (hc : X.calm = true) (h : DGs T X vs es g) (hn : (assignEach es X.env).length = n := by rfl) (hst : (assignEach es X.env).findIdx? (·.1) = none := by rfl) : DG T X vs (.Tuple es k pos) (gTp n g) :=
  PG.imp (PG.or (pg_tup hc h hn hst) (pg_lst hc h hn hst)) fun v σ H Q ⟨M, r, st, d, Q', s, re, rv, hh, kk⟩ => by
    cases d with
    | tup ds => cases rv with | tup nn e q rs => exact .inl ⟨_, _, rfl, .inl (.inr ⟨_, e⟩), by rw [← rs.length]; exact hh.1, M, r, st, ds, Q', s, re, rs, hh.2, kk⟩
    | tuk ds => cases rv with | tuk nn e rs => exact .inl ⟨_, _, rfl, .inl (.inl e), by rw [← rs.length]; exact hh.1, M, r, st, ds, Q', s, re, rs, hh.2, kk⟩
    | lst ds => cases rv with | lst nn e rs => exact .inr ⟨_, _, rfl, .inl (.inl e), by rw [← rs.length]; exact hh.1, M, r, st, ds, Q', s, re, rs, hh.2, kk⟩
    | _ => exact hh.elim
def sSet (i : Nat) (f : DTE) : DTS := fun E r st => f r st fun d st1 => E.nx (r.set i (some d)) st1
theorem ds_set {i : Nat} {x : Str} {e : Expr} {f : DTE} {pos' : Pos} (hN : X.N.Nodup) (hi : X.N[i]? = some x) (hx : Loc X.env.scope x) (he : DE T X e f) (hs : swapsWith e (some (.Name x pos')) pos.line X.env = pure false := by rfl)
    (hf : X.fn x = true ∨ X.env.scope.names.lookup x = some .local := by first | exact .inl rfl | exact .inr rfl | assumption) : DSt1 T X (.Assign [.Name x pos'] e pos) (sSet i f) :=
  PS.imp (ps_set hN hi hx he hs hf) fun E σ H ⟨M, r, st, E', s, re, h, k⟩ => ⟨M, r, st, _, s, re, h, fun M1 H1 st1 d v g1 s1 r1 q => k.nx M1 H1 _ _ st1 g1 s1 ((re.grow g1).set i r1) q⟩
def sAsg (f : DTE) (g : DTG) : DTS := fun E r st => f r st fun d st1 => g d r st1 E.nx
theorem ds_asg {tg e : Expr} {f : DTE} {g : DTG} (he : DE T X e f) (hg : DG T X vs tg g) (hs : swapsWithSole [tg] e pos.line X.env = pure false := by rfl) (hw : swappedStores [tg] e X.env = pure none := by rfl) (h1 : (assignEach [tg] X.env).map (·.2) = [assign tg X.env] := by rfl) : DSt1 T X (.Assign [tg] e pos) (sAsg f g) :=
  PS.imp (ps_asg he hg hs hw h1) fun E σ H ⟨M, r, st, E', s, re, h, k⟩ => ⟨M, r, st, _, s, re, h, fun M1 H1 st1 d v g1 s1 r1 q =>
    ⟨M1, r, st1, d, _, s1, re.grow g1, r1, q, fun M2 H2 σ2 r2 st2 g2 s2 re2 _ q2 => k.nx M2 H2 σ2 r2 st2 (g1.trans g2) s2 re2 q2⟩⟩
def sPar (i j : Nat) (f : DTA) : DTS := fun E r st => f r st fun ds st1 => on2 ds fun d e => E.nx ((r.set i (some d)).set j (some e)) st1
theorem ds_par {i j : Nat} {x y : Str} {a b : Expr} {f : DTA} {px py pt : Pos} {kt k2 pt2} (hc : X.calm = true) (hN : X.N.Nodup) (hi : X.N[i]? = some x) (hj : X.N[j]? = some y) (hij : i ≠ j) (hx : X.env.scope.names.lookup x = some .local) (hy : X.env.scope.names.lookup y = some .local) (ha : DA T X [a, b] f)
    (hw : swappedStores [.Tuple [.Name x px, .Name y py] kt pt] (.Tuple [a, b] k2 pt2) X.env = pure (some [x, y])) (hs : swapsWithSole [.Tuple [.Name x px, .Name y py] kt pt] (.Tuple [a, b] k2 pt2) pos.line X.env = pure false := by rfl) :
    DSt1 T X (.Assign [.Tuple [.Name x px, .Name y py] kt pt] (.Tuple [a, b] k2 pt2) pos) (sPar i j f) :=
  PS.imp (ps_par hc hN hi hj hij hx hy ha hw hs) fun E σ H ⟨M, r, st, E', s, re, h, k⟩ => ⟨M, r, st, _, s, re, h, fun M1 H1 st1 ds vs g1 s1 r1 q => by
    obtain ⟨d, e, rfl, q⟩ := on2.of q
    obtain ⟨v, w, rfl, rv, rw'⟩ := r1.two
    exact ⟨v, w, rfl, k.nx M1 H1 _ _ st1 g1 s1 (((re.grow g1).set i rv).set j rw') q⟩⟩
def gSb (fo fi : DTE) : DTG := fun d r st Q => fo r st fun o st1 => fi r st1 fun i st2 => match o with
  | .ref n => onI i fun k => match st2[n]? with
    | some (.lst xs) => onO (ixN xs.length k) fun j => Q r (st2.set n (.lst (xs.set j d)))
    | _ => False
  | _ => False
theorem dg_sub {o i : Expr} {fo fi : DTE} (ho : DE T X o fo) (hi : DE T X i fi)
    (ha : ∀ v, assign (.Subscript o i pos) X.env v = (do let ov ← holding [v] (eval o X.env); let iv ← holding [v, ov] (eval i X.env); standAt pos; holding [v, ov, iv] (setItem ov iv v); release [v, ov, iv] []) := by intro _; rfl) : DG T X vs (.Subscript o i pos) (gSb fo fi) :=
  PG.imp (pg_sub ho hi set_list ha) fun v σ H Q ⟨M, r, st, d, Q', s, re, rv, h, k⟩ =>
    ⟨M, r, st, _, s, re, h, fun M1 H1 st1 o vo g1 s1 r1 q => ⟨M1, r, st1, _, s1, re.grow g1, q, fun M2 H2 st2 i vi g2 s2 r2 q2 => by
      cases o with
      | ref n =>
        obtain ⟨kk, rfl, q3⟩ := onI.of q2
        cases r2
        have r1' := r1.grow g2
        cases r1' with
        | ref hm =>
          split at q3
          · rename_i xs e1
            obtain ⟨j, e2, q4⟩ := onO.of q3
            obtain ⟨ys, hy, rs⟩ := s2.obj n _ _ hm e1
            refine ⟨_, ys, kk, j, rfl, rfl, hy, by rw [← rs.length]; exact e2, ?_⟩
            have gw : Grow M2 H2 M2 (upd H2 _ (.lst (ys.set j v))) := Grow.write s2.nd hm
            refine k M2 _ σ r _ ((g1.trans g2).trans gw) (s2.write (u := .lst (xs.set j d)) hm ⟨ys.set j v, upd_same, ?_⟩) ((re.grow (g1.trans g2)).grow gw) rfl q4
            exact ((rs.grow gw).set (((rv.grow g1).grow g2).grow gw) j)
          · exact q3.elim
      | _ => exact q2.elim⟩⟩
end
end DL
namespace DL
open PySem PySem.Spec PyProof.Rows L2 LamX PySem.W SL
structure Later (M : Pl) (H : Hp) (M' : Pl) (H' : Hp) : Prop where
  keep : ∀ a o, a ∉ M.m → H a = some o → (∀ ps, o ≠ .tbl ps) → H' a = some o
  get : ∀ n a, M.at_ n = some a → M'.at_ n = some a
  notin : ∀ a, a ∉ M.m → NT H a → a ∉ M'.m
theorem Grow.later {M M' : Pl} {H H' : Hp} (g : Grow M H M' H') : Later M H M' H' := ⟨g.keep, fun _ _ h => g.get h, fun _ h t => g.notin h t⟩
theorem Later.trans {M M1 M2 : Pl} {H H1 H2 : Hp} (a : Later M H M1 H1) (b : Later M1 H1 M2 H2) (th : ∀ a, NT H a → NT H1 a) : Later M H M2 H2 :=
  ⟨fun c o n h t => b.keep c o (a.notin c n ⟨o, h, t⟩) (a.keep c o n h t) t, fun n c h => b.get n c (a.get n c h), fun c n h => b.notin c (a.notin c n h) (th c h)⟩
theorem Rd.later {M M' : Pl} {H H' : Hp} (g : Later M H M' H') {a : Addr} {xs : List V} (n : a ∉ M.m) (r : Rd H a (.lst xs)) : Rd H' a (.lst xs) := by
  rcases r with r | ⟨o, r⟩
  · exact .inl (g.keep a _ n r (fun ps z => by cases z))
  · exact .inr ⟨o, g.keep a _ n r (fun ps z => by cases z)⟩
mutual
theorem RV.later {K : PySem.W.Frag} {M M' : Pl} {H H' : Hp} (g : Later M H M' H') : ∀ {d : D} {v : V}, RV K M H d v → RV K M' H' d v
  | _, _, .non => .non
  | _, _, .bl b => .bl b
  | _, _, .int i => .int i
  | _, _, .str x => .str x
  | _, _, .tup n h e r => .tup (g.notin _ n ⟨_, h, fun ps z => by cases z⟩) (g.keep _ _ n h (fun ps z => by cases z)) e (r.later g)
  | _, _, .tuk n h r => .tuk (g.notin _ n ⟨_, h, fun ps z => by cases z⟩) (g.keep _ _ n h (fun ps z => by cases z)) (r.later g)
  | _, _, .lst n h r => .lst (g.notin _ n ⟨_, h, fun ps z => by cases z⟩) (g.keep _ _ n h (fun ps z => by cases z)) (r.later g)
  | _, _, .scr n h r => .scr (g.notin _ n (Rd.there h)) (Rd.later g n h) (r.later g)
  | _, _, .lsk h r => .lsk h (r.later g)
  | _, _, .ref h => .ref (g.get _ _ h)
theorem RVs.later {K : PySem.W.Frag} {M M' : Pl} {H H' : Hp} (g : Later M H M' H') : ∀ {d : List D} {v : List V}, RVs K M H d v → RVs K M' H' d v
  | _, _, .nil => .nil
  | _, _, .cons h t => .cons (h.later g) (t.later g)
end
theorem RO.later {K : PySem.W.Frag} {M M' : Pl} {H H' : Hp} (g : Later M H M' H') {o : O} {a : Addr} (h : RO K M H o a) (e : H' a = H a) : RO K M' H' o a := by
  cases o with
  | lst ds => obtain ⟨xs, h1, h2⟩ := h; exact ⟨xs, e.trans h1, h2.later g⟩
  | dK kvs => obtain ⟨ys, h1, h2, h3⟩ := h; exact ⟨ys, e.trans h1, h2, h3.later g⟩
  | dT kvs => obtain ⟨ys, h1, h2, h3, h4⟩ := h; exact ⟨ys, h1.stay e, h2, h3.later g, fun y hy => ⟨g.notin _ (h4 y hy).1 (h4 y hy).2.there, (h4 y hy).2.elim (fun z => .inl (g.keep _ _ (h4 y hy).1 z (fun ps w => by cases w))) fun ⟨ob, z, d⟩ => .inr ⟨ob, g.keep _ _ (h4 y hy).1 z (fun ps w => by cases w), d⟩⟩⟩
  | lk ob ys kvs => obtain ⟨h1, h2, h3⟩ := h; exact ⟨e.trans h1, h2, h3.later g⟩
  | lkT ob ys kvs => obtain ⟨h1, h2, h3, h4⟩ := h; exact ⟨h1.stay e, h2, h3.later g, fun y hy => ⟨g.notin _ (h4 y hy).1 (h4 y hy).2.there, (h4 y hy).2.elim (fun z => .inl (g.keep _ _ (h4 y hy).1 z (fun ps w => by cases w))) fun ⟨ob, z, d⟩ => .inr ⟨ob, g.keep _ _ (h4 y hy).1 z (fun ps w => by cases w), d⟩⟩⟩
  | ins C fs => obtain ⟨dx, ys, h1, h2, h3⟩ := h; exact ⟨dx, ys, e.trans h1, h2, h3.later g⟩
def Pl.hide (M : Pl) (p : Addr) : Pl := ⟨M.h + 1, p :: M.m⟩
theorem Pl.hide_at (M : Pl) (p : Addr) (n : Nat) : (M.hide p).at_ n = M.at_ n := by
  unfold Pl.at_ Pl.hide
  show (p :: M.m)[M.h + 1 + n]? = M.m[M.h + n]?
  rw [show M.h + 1 + n = (M.h + n) + 1 by omega, List.getElem?_cons_succ]
theorem Pl.hide_app (M : Pl) (p : Addr) (m : List Addr) : (M.hide p).app m = (M.app m).hide p := rfl
theorem Pl.hide_inj {M N : Pl} {p : Addr} (h : M.hide p = N.hide p) : M = N := by
  cases M
  cases N
  unfold Pl.hide at h
  simp only [Pl.mk.injEq, List.cons.injEq, Nat.add_right_cancel_iff, true_and] at h
  rw [h.1, h.2]
theorem later_hide {M : Pl} {H : Hp} {p : Addr} {o : HO} (np : H p = none) : Later M H (M.hide p) (upd H p o) :=
  ⟨fun a u _ e _ => by rw [upd_ne (ne_of_none e np)]; exact e, fun n a h => by rw [Pl.hide_at]; exact h, fun a h t z => by
    rcases List.mem_cons.mp z with z | z
    · exact t.ne np z
    · exact h z⟩
theorem later_unhide {M : Pl} {H : Hp} {p : Addr} : Later (M.hide p) H M H :=
  ⟨fun _ _ _ e _ => e, fun n a h => by rw [← Pl.hide_at M p n]; exact h, fun a h _ z => h (List.mem_cons_of_mem _ z)⟩
theorem later_own {M : Pl} {H : Hp} {p : Addr} : Later (M.hide p) H (M.app [p]) H :=
  ⟨fun _ _ _ e _ => e, fun n a h => by
    rw [Pl.hide_at] at h
    unfold Pl.at_ at h ⊢
    show (M.m ++ [p])[M.h + n]? = some a
    rw [List.getElem?_append_left (List.getElem?_eq_some_iff.mp h).1]
    exact h, fun a h _ z => h (by
    rcases List.mem_append.mp z with z | z
    · exact List.mem_cons_of_mem _ z
    · rw [List.mem_singleton.mp z]; exact List.mem_cons_self)⟩
section
variable {T : List (Addr × Str)} {K : Frag} {M M' : Pl} {H H' : Hp} {st : DSt} {p : Addr}
theorem RS.hide (s : RS T K M st H) (np : H p = none) {xs : List V} : RS T K (M.hide p) st (upd H p (.lst xs)) := by
  refine ⟨by show (p :: M.m).length = M.h + 1 + st.length; rw [List.length_cons, s.len]; omega, List.nodup_cons.mpr ⟨s.notin np, s.nd⟩, fun n a o e1 e2 => ?_, tabs_upd s.tabs fun b u hb _ => ne_of_none hb np, fun a ha => ?_⟩
  · rw [Pl.hide_at] at e1
    exact (s.obj n a o e1 e2).later (later_hide np) (upd_ne fun z => s.notin np (by rw [← z]; exact Pl.at_mem e1))
  · have ha' : a ∈ (p :: M.m).take (M.h + 1) := ha
    rw [List.take_succ_cons] at ha'
    rcases List.mem_cons.mp ha' with z | z
    · rw [z]; exact ⟨xs, upd_same⟩
    · exact s.hid.upd np a z
theorem RS.unhide (s : RS T K (M.hide p) st H) : RS T K M st H := by
  have len : (p :: M.m).length = M.h + 1 + st.length := s.len
  rw [List.length_cons] at len
  refine ⟨by omega, (List.nodup_cons.mp s.nd).2, fun n a o e1 e2 => ?_, s.tabs, fun a ha => s.hid a ?_⟩
  · exact (s.obj n a o (by rw [Pl.hide_at]; exact e1) e2).later later_unhide rfl
  · show a ∈ (p :: M.m).take (M.h + 1)
    rw [List.take_succ_cons]
    exact List.mem_cons_of_mem _ ha
theorem RS.own {ds : List D} {xs : List V} (s : RS T K (M.hide p) st H) (hp : H p = some (.lst xs)) (r : RVs K (M.hide p) H ds xs) : RS T K (M.app [p]) (st ++ [.lst ds]) H := by
  have u := s.unhide
  refine ⟨?_, ?_, fun n a o e1 e2 => ?_, s.tabs, fun a ha => ?_⟩
  · show (M.m ++ [p]).length = M.h + (st ++ [O.lst ds]).length
    rw [List.length_append, List.length_append, u.len, Nat.add_assoc]
    rfl
  · show (M.m ++ [p]).Nodup
    rw [List.nodup_append]
    refine ⟨u.nd, by simp, fun a ha b hb => ?_⟩
    rw [List.mem_singleton.mp hb]
    exact fun z => (List.nodup_cons.mp s.nd).1 (z ▸ ha)
  · have e1' : (M.m ++ [p])[M.h + n]? = some a := e1
    by_cases lt : n < st.length
    · rw [List.getElem?_append_left (by rw [u.len]; omega)] at e1'
      rw [List.getElem?_append_left lt] at e2
      exact (s.obj n a o (by rw [Pl.hide_at]; exact e1') e2).later later_own rfl
    · rw [List.getElem?_append_right (by rw [u.len]; omega)] at e1'
      rw [List.getElem?_append_right (by omega)] at e2
      have n0 : M.h + n - M.m.length = 0 := by
        have := (List.getElem?_eq_some_iff.mp e1').1
        simp at this
        omega
      have n1 : n - st.length = 0 := by rw [u.len] at n0; omega
      rw [n0] at e1'
      rw [n1] at e2
      cases e1'
      cases e2
      exact ⟨xs, hp, r.later later_own⟩
  · have ha' : a ∈ (M.m ++ [p]).take M.h := ha
    rw [List.take_append_of_le_length (by rw [u.len]; omega)] at ha'
    exact u.hid a ha'
end
structure DIt where
  items : List D
  src : Option (Nat × O)
def okI (I : DIt) (st : DSt) (P : Prop) : Prop := match I.src with | none => P | some (n, xs) => st[n]? = some xs ∧ P
def okS (I : DIt) (st : DSt) : Prop := I.src = none ∨ ∃ n xs, I.src = some (n, xs) ∧ st[n]? = some xs
theorem okI.of {I : DIt} {st : DSt} {P : Prop} (h : okI I st P) : okS I st ∧ P := by
  unfold okI at h
  cases q : I.src with
  | none => rw [q] at h; exact ⟨.inl q, h⟩
  | some n => rw [q] at h; exact ⟨.inr ⟨n.1, n.2, q, h.1⟩, h.2⟩
structure ItOk (T : List (Addr × Str)) (K : Frag) (M : Pl) (H : Hp) (J : It) (I : DIt) : Prop where
  go : ∀ M' H' st', Later M H M' H' → RS T K M' st' H' → okS I st' → ∀ (i : Nat) (d : D), I.items[i]? = some d → J.go i H' ∧ ∀ x H'', J.yld i H' x H'' → Grow M' H' M' H'' ∧ RS T K M' st' H'' ∧ RV K M' H'' d x
  stop : ∀ M' H' st', Later M H M' H' → RS T K M' st' H' → okS I st' → J.stop I.items.length H'
abbrev DTI := DEnv → DSt → (DIt → DSt → Prop) → Prop
def liftI (T : List (Addr × Str)) (K : Frag) (f : DTI) : TI := fun σ H R => ∃ M r st R', RS T K M st H ∧ RE K M H r σ ∧ f r st R' ∧ ∀ M' H' st' J I, Grow M H M' H' → RS T K M' st' H' → R' I st' → ItOk T K M' H' J I → R J H'
theorem PI.imp {X : Cx} {tg e : Expr} {t t' : TI} (h : PI X tg e t) (i : ∀ σ H Q, t' σ H Q → t σ H Q) : PI X tg e t' := ⟨fun pins s σ H Q I z => h.run pins s σ H Q I (i σ H Q z)⟩
abbrev DI (T : List (Addr × Str)) (X : Cx) (tg e : Expr) (f : DTI) : Prop := PI X tg e (liftI T X.K f)
def iSeq (K : Frag) (tl : TE) : TI := fun σ H R => tl σ H fun x H1 => ∃ a, x = .ref a ∧ (((∃ xs, SqL K H1 a xs) ∧ R (Itl K a) H1) ∨ ((∃ xs, SqT K H1 a xs) ∧ R (Itt K a) H1))
section
variable {T : List (Addr × Str)} {X : Cx} {tg : Expr}
theorem pi_seq {l : Expr} {tl : TE} (hl : PE X l tl) : PI X tg l (iSeq X.K tl) := by
  refine ⟨fun pins s σ H R I h => ?_⟩
  refine thn (hl.run pins s σ H _ I h) fun v s1 ⟨x, H1, I1, r1, q1⟩ => ?_
  obtain ⟨a, e, q1⟩ := q1
  subst e
  cases r1
  rcases q1 with ⟨⟨xs, hq⟩, q⟩ | ⟨⟨xs, hq⟩, q⟩
  · obtain ⟨its, rv, p, hz⟩ := I1.list hq
    refine wpAny_pyIter_list p.isList ?_
    refine ⟨s1.heap.objs.size, [s1.heap.objs.size], _, _, H1, rfl, I1.kept (t' := s1.toks) fun b o e => Heap.get?_push_of_some _ e, turn_list a _, ⟨_, Heap.get?_push_size _ rfl, rfl, rfl⟩, fun b hb => ?_, q⟩
    have e : b = s1.heap.objs.size := by simpa using hb
    subst e
    exact I1.fpOk (Nat.le_refl _) (I1.hok.fresh (Nat.le_refl _))
  · obtain ⟨its, rv, p, hz⟩ := I1.tuple hq
    refine wpAny_pyIter_tuple (show s1.heap.IsTuple a its.toArray from p) ?_
    refine ⟨s1.heap.objs.size, [s1.heap.objs.size], _, _, H1, rfl, I1.kept (t' := s1.toks) fun b o e => Heap.get?_push_of_some _ e, turn_tuple a _, ⟨_, Heap.get?_push_size _ rfl, rfl, rfl⟩, fun b hb => ?_, q⟩
    have e : b = s1.heap.objs.size := by simpa using hb
    subst e
    exact I1.fpOk (Nat.le_refl _) (I1.hok.fresh (Nat.le_refl _))
end
def itOf (st : DSt) : D → Option DIt
  | .tup ds => some ⟨ds, none⟩
  | .tuk ds => some ⟨ds, none⟩
  | .lst ds => some ⟨ds, none⟩
  | .scr ds => some ⟨ds, none⟩
  | .ref n => match st[n]? with | some (.lst ds) => some ⟨ds, some (n, .lst ds)⟩ | _ => none
  | _ => none
def wSeq (f : DTE) : DTI := fun r st R => f r st fun d st1 => onO (itOf st1 d) fun I => R I st1
inductive SrcAt (K : Frag) (M : Pl) (H : Hp) (I : DIt) (a : Addr) : Prop
  | lst {xs : List V} : (∀ M' H', Later M H M' H' → SqL K H' a xs) → RVs K M H I.items xs → I.src = none → SrcAt K M H I a
  | tup {xs : List V} : (∀ M' H', Later M H M' H' → SqT K H' a xs) → RVs K M H I.items xs → I.src = none → SrcAt K M H I a
  | ref {n : Nat} : M.at_ n = some a → I.src = some (n, .lst I.items) → SrcAt K M H I a
section
variable {T : List (Addr × Str)} {K : Frag} {M : Pl} {H : Hp} {st : DSt}
theorem itOf.src {d : D} {v : V} {I : DIt} (s : RS T K M st H) (r : RV K M H d v) (e : itOf st d = some I) : ∃ a, v = .ref a ∧ SrcAt K M H I a ∧ okS I st := by
  cases r with
  | tup n h q rs => cases e; exact ⟨_, rfl, .tup (fun M' H' l => .inl (.inr ⟨_, l.keep _ _ n h (fun ps z => by cases z)⟩)) rs rfl, .inl rfl⟩
  | tuk n h rs => cases e; exact ⟨_, rfl, .tup (fun M' H' l => .inl (.inl (l.keep _ _ n h (fun ps z => by cases z)))) rs rfl, .inl rfl⟩
  | lst n h rs => cases e; exact ⟨_, rfl, .lst (fun M' H' l => .inl (Rd.later l n (.inl h))) rs rfl, .inl rfl⟩
  | scr n h rs => cases e; exact ⟨_, rfl, .lst (fun M' H' l => .inl (Rd.later l n h)) rs rfl, .inl rfl⟩
  | lsk h rs => cases e; exact ⟨_, rfl, .lst (fun M' H' l => h H') rs rfl, .inl rfl⟩
  | ref h =>
    obtain ⟨o, e1, ro⟩ := s.atM h
    unfold itOf at e
    simp only [e1] at e
    cases o with
    | lst xs => cases e; exact ⟨_, rfl, .ref h rfl, .inr ⟨_, _, rfl, e1⟩⟩
    | dK _ => cases e
    | dT _ => cases e
    | lk _ _ _ => cases e
    | lkT _ _ _ => cases e
    | ins _ _ => cases e
  | _ => cases e
theorem SrcAt.rd {I : DIt} {a : Addr} (h : SrcAt K M H I a) {M' : Pl} {H' : Hp} {st' : DSt} (l : Later M H M' H') (s : RS T K M' st' H') (ok : okS I st') :
    ∃ xs, RVs K M' H' I.items xs ∧ (SqL K H' a xs ∨ SqT K H' a xs) := by
  cases h with
  | lst h r e => exact ⟨_, r.later l, .inl (h M' H' l)⟩
  | tup h r e => exact ⟨_, r.later l, .inr (h M' H' l)⟩
  | ref h e =>
    rcases ok with z | ⟨n', ys, z, q⟩
    · rw [e] at z; cases z
    · rw [e] at z
      cases z
      obtain ⟨xs, e1, e2⟩ := s.obj _ a _ (l.get _ _ h) q
      exact ⟨xs, e2, .inl (.inl (.inl e1))⟩
end
end DL
namespace DL
open PySem PySem.Spec PyProof.Rows L2 LamX PySem.W SL
section
variable {T : List (Addr × Str)} {K : Frag} {M : Pl} {H : Hp} {st : DSt} {I : DIt} {a : Addr}
def IsL (T : List (Addr × Str)) (K : Frag) (M : Pl) (H : Hp) (I : DIt) (a : Addr) : Prop := ∀ M' H' st', Later M H M' H' → RS T K M' st' H' → okS I st' → ∃ xs, RVs K M' H' I.items xs ∧ SqL K H' a xs
def IsT (T : List (Addr × Str)) (K : Frag) (M : Pl) (H : Hp) (I : DIt) (a : Addr) : Prop := ∀ M' H' st', Later M H M' H' → RS T K M' st' H' → okS I st' → ∃ xs, RVs K M' H' I.items xs ∧ SqT K H' a xs
theorem SrcAt.lt (h : SrcAt K M H I a) : IsL T K M H I a ∨ IsT T K M H I a := by
  cases h with
  | lst h r e => exact .inl fun M' H' st' l s ok => ⟨_, r.later l, h M' H' l⟩
  | tup h r e => exact .inr fun M' H' st' l s ok => ⟨_, r.later l, h M' H' l⟩
  | ref h e =>
    refine .inl fun M' H' st' l s ok => ?_
    rcases ok with z | ⟨n', ys, z, q⟩
    · rw [e] at z; cases z
    · rw [e] at z
      cases z
      obtain ⟨xs, e1, e2⟩ := s.obj _ a _ (l.get _ _ h) q
      exact ⟨xs, e2, .inl (.inl e1)⟩
theorem IsL.it (h : IsL T K M H I a) : ItOk T K M H (Itl K a) I := by
  refine ⟨fun M' H' st' l s ok i d e => ?_, fun M' H' st' l s ok => ?_⟩
  · obtain ⟨xs, r, q⟩ := h M' H' st' l s ok
    obtain ⟨v, e1, rv⟩ := r.get e
    refine ⟨⟨xs, v, q, e1⟩, fun x H'' y => ?_⟩
    obtain ⟨rfl, y⟩ := y
    have z := y xs q
    rw [e1] at z
    cases z
    exact ⟨Grow.refl _ _, s, rv⟩
  · obtain ⟨xs, r, q⟩ := h M' H' st' l s ok
    exact ⟨xs, q, by rw [r.length]; exact Nat.le_refl _⟩
theorem IsT.it (h : IsT T K M H I a) : ItOk T K M H (Itt K a) I := by
  refine ⟨fun M' H' st' l s ok i d e => ?_, fun M' H' st' l s ok => ?_⟩
  · obtain ⟨xs, r, q⟩ := h M' H' st' l s ok
    obtain ⟨v, e1, rv⟩ := r.get e
    refine ⟨⟨xs, v, q, e1⟩, fun x H'' y => ?_⟩
    obtain ⟨rfl, y⟩ := y
    have z := y xs q
    rw [e1] at z
    cases z
    exact ⟨Grow.refl _ _, s, rv⟩
  · obtain ⟨xs, r, q⟩ := h M' H' st' l s ok
    exact ⟨xs, q, by rw [r.length]; exact Nat.le_refl _⟩
end
theorem Later.refl (M : Pl) (H : Hp) : Later M H M H := (Grow.refl M H).later
section
variable {T : List (Addr × Str)} {X : Cx} {tg e : Expr} {f fa fb : DTE} {pos p : Pos}
theorem di_seq (he : DE T X e f) : DI T X tg e (wSeq f) := PI.imp (pi_seq he) fun σ H R ⟨M, r, st, R', s, re, h, k⟩ => ⟨M, r, st, _, s, re, h, fun M1 H1 st1 d v g1 s1 r1 q => by
  obtain ⟨I, e, q⟩ := onO.of q
  obtain ⟨a, rfl, src, ok⟩ := itOf.src s1 r1 e
  rcases src.lt (T := T) with l | l
  · obtain ⟨xs, _, sq⟩ := l M1 H1 st1 (Later.refl _ _) s1 ok
    exact ⟨a, rfl, .inl ⟨⟨xs, sq⟩, k M1 H1 st1 _ I g1 s1 q l.it⟩⟩
  · obtain ⟨xs, _, sq⟩ := l M1 H1 st1 (Later.refl _ _) s1 ok
    exact ⟨a, rfl, .inr ⟨⟨xs, sq⟩, k M1 H1 st1 _ I g1 s1 q l.it⟩⟩⟩
def rgD (lo : Int) (n : Nat) : List D := (List.range n).map fun i => D.int (lo + (i : Nat))
theorem rgD_get {lo : Int} {n i : Nat} {d : D} (h : (rgD lo n)[i]? = some d) : i < n ∧ d = .int (lo + (i : Nat)) := by
  unfold rgD at h
  rw [List.getElem?_map] at h
  cases q : (List.range n)[i]? with
  | none => rw [q] at h; cases h
  | some j =>
    rw [q] at h
    obtain ⟨l, e⟩ := List.getElem?_eq_some_iff.mp q
    rw [List.getElem_range] at e
    rw [List.length_range] at l
    subst e
    cases h
    exact ⟨l, rfl⟩
theorem rgD_length (lo : Int) (n : Nat) : (rgD lo n).length = n := by unfold rgD; rw [List.length_map, List.length_range]
theorem itok_range {K : Frag} {M : Pl} {H : Hp} {lo : Int} {n : Nat} : ItOk T K M H (Itr lo n) ⟨rgD lo n, none⟩ := by
  refine ⟨fun M' H' st' l s ok i d e => ?_, fun M' H' st' l s ok => ?_⟩
  · obtain ⟨lt, rfl⟩ := rgD_get e
    refine ⟨lt, fun x H'' y => ?_⟩
    obtain ⟨rfl, rfl⟩ := y
    exact ⟨Grow.refl _ _, s, .int _⟩
  · show n ≤ (rgD lo n).length
    rw [rgD_length]
    exact Nat.le_refl _
def wRng1 (fs : DTA) : DTI := fun r st R => fs r st fun ds st1 => on1 ds fun x => onI x fun j => (-(2 ^ 62) ≤ j ∧ j < 2 ^ 62) ∧ R ⟨rgD 0 j.toNat, none⟩ st1
def wRng2 (fs : DTA) : DTI := fun r st R => fs r st fun ds st1 => on2 ds fun x y => onI x fun i => onI y fun j => (-(2 ^ 62) ≤ i ∧ i < 2 ^ 62 ∧ -(2 ^ 62) ≤ j ∧ j < 2 ^ 62) ∧ R ⟨rgD i (j - i).toNat, none⟩ st1
theorem di_range1 {a : Expr} {fs : DTA} (hg : Gl X "range") (hm : X.mg "range" = none) (ha : DA T X [a] fs) (hs : starEach [a] X.env = [(false, eval a X.env)] := by rfl) : DI T X tg (.Call (.Name "range" p) [a] [] pos) (wRng1 fs) :=
  PI.imp (pi_range1 hg hm ha hs) fun σ H R ⟨M, r, st, R', s, re, h, k⟩ => ⟨M, r, st, _, s, re, h, fun M1 H1 st1 ds vs g1 s1 r1 q => by
    obtain ⟨x, rfl, q⟩ := on1.of q
    obtain ⟨j, rfl, b, q⟩ := onI.of q
    obtain ⟨v, rfl, rv⟩ := r1.one
    cases rv
    exact ⟨j, rfl, b.1, b.2, k M1 H1 st1 _ _ g1 s1 q itok_range⟩⟩
theorem di_range2 {a b : Expr} {fs : DTA} (hg : Gl X "range") (hm : X.mg "range" = none) (ha : DA T X [a, b] fs) (hs : starEach [a, b] X.env = [(false, eval a X.env), (false, eval b X.env)] := by rfl) (hs2 : starEach [b] X.env = [(false, eval b X.env)] := by rfl) : DI T X tg (.Call (.Name "range" p) [a, b] [] pos) (wRng2 fs) :=
  PI.imp (pi_range2 hg hm ha hs hs2) fun σ H R ⟨M, r, st, R', s, re, h, k⟩ => ⟨M, r, st, _, s, re, h, fun M1 H1 st1 ds vs g1 s1 r1 q => by
    obtain ⟨x, y, rfl, q⟩ := on2.of q
    obtain ⟨i, rfl, q⟩ := onI.of q
    obtain ⟨j, rfl, b, q⟩ := onI.of q
    obtain ⟨v, w, rfl, rv, rw'⟩ := r1.two
    cases rv
    cases rw'
    exact ⟨i, j, rfl, b, k M1 H1 st1 _ _ g1 s1 q itok_range⟩⟩
end
mutual
def clo (n : Nat) : D → Bool
  | .tup ds => clos n ds
  | .tuk ds => clos n ds
  | .lst ds => clos n ds
  | .scr ds => clos n ds
  | .ref k => decide (k < n)
  | _ => true
def clos (n : Nat) : List D → Bool
  | [] => true
  | d :: ds => clo n d && clos n ds
end
def cloO (n : Nat) : O → Bool
  | .lst ds => clos n ds
  | .dK kvs => clos n (kvs.map (·.2))
  | .dT kvs => clos n (kvs.map (·.2))
  | .lk _ _ kvs => clos n (kvs.map (·.2))
  | .lkT _ _ kvs => clos n (kvs.map (·.2))
  | .ins _ fs => clos n (fs.map (·.2))
def cloR (n : Nat) (r : DEnv) : Prop := ∀ (i : Nat) (d : D), r[i]? = some (some d) → clo n d = true
def cloS (st0 : DSt) (n : Nat) (st : DSt) : Prop := ∀ (i : Nat) (o : O), i < n → st[i]? = some o → st0[i]? = some o ∨ cloO n o = true
def Less (r r' : DEnv) : Prop := r.length = r'.length ∧ ∀ (i : Nat) (d : D), r[i]? = some (some d) → r'[i]? = some (some d)
theorem Less.refl (r : DEnv) : Less r r := ⟨rfl, fun _ _ h => h⟩
def Pl.cut (M : Pl) (n : Nat) : Pl := ⟨M.h, M.m.take (M.h + n)⟩
section
variable {T : List (Addr × Str)} {K : Frag} {M : Pl} {H : Hp} {st : DSt}
theorem cut_at {n k : Nat} {a : Addr} (h : M.at_ k = some a) (lt : k < n) : (M.cut n).at_ k = some a := by
  unfold Pl.at_ Pl.cut
  show (M.m.take (M.h + n))[M.h + k]? = some a
  rw [List.getElem?_take, if_pos (by omega)]
  exact h
theorem cut_notin {n : Nat} {a : Addr} (h : a ∉ M.m) : a ∉ (M.cut n).m := fun z => h (List.mem_of_mem_take z)
mutual
theorem RV.cut {n : Nat} : ∀ {d : D} {v : V}, RV K M H d v → clo n d = true → RV K (M.cut n) H d v
  | _, _, .non, _ => .non
  | _, _, .bl b, _ => .bl b
  | _, _, .int i, _ => .int i
  | _, _, .str x, _ => .str x
  | _, _, .tup nn h e r, c => .tup (cut_notin nn) h e (r.cut (by simpa [clo] using c))
  | _, _, .tuk nn h r, c => .tuk (cut_notin nn) h (r.cut (by simpa [clo] using c))
  | _, _, .lst nn h r, c => .lst (cut_notin nn) h (r.cut (by simpa [clo] using c))
  | _, _, .scr nn h r, c => .scr (cut_notin nn) h (r.cut (by simpa [clo] using c))
  | _, _, .lsk h r, c => .lsk h (r.cut (by simpa [clo] using c))
  | _, _, .ref h, c => .ref (cut_at h (by simpa [clo] using c))
theorem RVs.cut {n : Nat} : ∀ {d : List D} {v : List V}, RVs K M H d v → clos n d = true → RVs K (M.cut n) H d v
  | _, _, .nil, _ => .nil
  | _, _, .cons h t, c => by
    simp only [clos, Bool.and_eq_true] at c
    exact .cons (h.cut c.1) (t.cut c.2)
end
theorem RO.cut {n : Nat} {o : O} {a : Addr} (h : RO K M H o a) (c : cloO n o = true) : RO K (M.cut n) H o a := by
  cases o with
  | lst ds => obtain ⟨xs, h1, h2⟩ := h; exact ⟨xs, h1, h2.cut c⟩
  | dK kvs => obtain ⟨ys, h1, h2, h3⟩ := h; exact ⟨ys, h1, h2, h3.cut c⟩
  | dT kvs => obtain ⟨ys, h1, h2, h3, h4⟩ := h; exact ⟨ys, h1, h2, h3.cut c, fun y hy => ⟨cut_notin (h4 y hy).1, (h4 y hy).2⟩⟩
  | lk ob ys kvs => obtain ⟨h1, h2, h3⟩ := h; exact ⟨h1, h2, h3.cut c⟩
  | lkT ob ys kvs => obtain ⟨h1, h2, h3, h4⟩ := h; exact ⟨h1, h2, h3.cut c, fun y hy => ⟨cut_notin (h4 y hy).1, (h4 y hy).2⟩⟩
  | ins C fs => obtain ⟨dx, ys, h1, h2, h3⟩ := h; exact ⟨dx, ys, h1, h2, h3.cut c⟩
mutual
theorem clo_mono {n m : Nat} (l : n ≤ m) : ∀ {d : D}, clo n d = true → clo m d = true
  | .non, _ => by simp [clo]
  | .bl _, _ => by simp [clo]
  | .int _, _ => by simp [clo]
  | .str _, _ => by simp [clo]
  | .tup ds, h => by simp only [clo] at h ⊢; exact clos_mono l h
  | .tuk ds, h => by simp only [clo] at h ⊢; exact clos_mono l h
  | .lst ds, h => by simp only [clo] at h ⊢; exact clos_mono l h
  | .scr ds, h => by simp only [clo] at h ⊢; exact clos_mono l h
  | .ref k, h => by
    simp only [clo, decide_eq_true_eq] at h ⊢
    omega
theorem clos_mono {n m : Nat} (l : n ≤ m) : ∀ {d : List D}, clos n d = true → clos m d = true
  | [], _ => by simp [clos]
  | d :: ds, h => by
    simp only [clos, Bool.and_eq_true] at h ⊢
    exact ⟨clo_mono l h.1, clos_mono l h.2⟩
end
theorem cloO_mono {n m : Nat} (l : n ≤ m) {o : O} (h : cloO n o = true) : cloO m o = true := by
  cases o <;> exact clos_mono l h
mutual
theorem RV.clo {n : Nat} (len : M.m.length = M.h + n) : ∀ {d : D} {v : V}, RV K M H d v → DL.clo n d = true
  | _, _, .non => by simp [DL.clo]
  | _, _, .bl b => by simp [DL.clo]
  | _, _, .int i => by simp [DL.clo]
  | _, _, .str x => by simp [DL.clo]
  | _, _, .tup nn h e r => by simp only [DL.clo]; exact RVs.clo len r
  | _, _, .tuk nn h r => by simp only [DL.clo]; exact RVs.clo len r
  | _, _, .lst nn h r => by simp only [DL.clo]; exact RVs.clo len r
  | _, _, .scr nn h r => by simp only [DL.clo]; exact RVs.clo len r
  | _, _, .lsk h r => by simp only [DL.clo]; exact RVs.clo len r
  | _, _, .ref h => by
    have := (List.getElem?_eq_some_iff.mp h).1
    simp only [DL.clo, decide_eq_true_eq]
    omega
theorem RVs.clo {n : Nat} (len : M.m.length = M.h + n) : ∀ {d : List D} {v : List V}, RVs K M H d v → DL.clos n d = true
  | _, _, .nil => by simp [DL.clos]
  | _, _, .cons h t => by
    simp only [DL.clos, Bool.and_eq_true]
    exact ⟨RV.clo len h, RVs.clo len t⟩
end
theorem RS.clo (s : RS T K M st H) {i : Nat} {o : O} (e : st[i]? = some o) : cloO st.length o = true := by
  obtain ⟨a, _, ro⟩ := s.addr e
  cases o with
  | lst ds => obtain ⟨xs, h1, h2⟩ := ro; exact h2.clo s.len
  | dK kvs => obtain ⟨ys, h1, h2, h3⟩ := ro; exact h3.clo s.len
  | dT kvs => obtain ⟨ys, h1, h2, h3, h4⟩ := ro; exact h3.clo s.len
  | lk ob ys kvs => obtain ⟨h1, h2, h3⟩ := ro; exact h3.clo s.len
  | lkT ob ys kvs => obtain ⟨h1, h2, h3, h4⟩ := ro; exact h3.clo s.len
  | ins C fs => obtain ⟨dx, ys, h1, h2, h3⟩ := ro; exact h3.clo s.len
theorem cloS.all {M0 : Pl} {H0 : Hp} {st0 : DSt} {n : Nat} (h : cloS st0 n st) (s0 : RS T K M0 st0 H0) (l : st0.length ≤ n) : ∀ (i : Nat) (o : O), i < n → st[i]? = some o → cloO n o = true := fun i o lt e => by
  rcases h i o lt e with q | q
  · exact cloO_mono l (s0.clo q)
  · exact q
theorem RS.cut {n : Nat} (s : RS T K M st H) (l : n ≤ st.length) (c : ∀ (i : Nat) (o : O), i < n → st[i]? = some o → cloO n o = true) : RS T K (M.cut n) (st.take n) H := by
  refine ⟨?_, List.Nodup.sublist (List.take_sublist _ _) s.nd, fun k a o e1 e2 => ?_, s.tabs, fun a ha => s.hid a ?_⟩
  · show (M.m.take (M.h + n)).length = M.h + (st.take n).length
    rw [List.length_take, List.length_take, s.len]
    omega
  · have lt : k < n := by
      have := (List.getElem?_eq_some_iff.mp e2).1
      rw [List.length_take] at this
      omega
    rw [List.getElem?_take, if_pos lt] at e2
    have e1' : (M.m.take (M.h + n))[M.h + k]? = some a := e1
    rw [List.getElem?_take, if_pos (by omega)] at e1'
    exact (s.obj k a o e1' e2).cut (c k o lt e2)
  · have ha' : a ∈ (M.m.take (M.h + n)).take M.h := ha
    rw [List.take_take, Nat.min_eq_left (by omega)] at ha'
    exact ha'
theorem RE.cut {n : Nat} {r r' : DEnv} {σ : L2.St} (re : RE K M H r σ) (l : Less r' r) (c : cloR n r') : RE K (M.cut n) H r' σ :=
  ⟨l.1.trans re.len, fun i d e => by
    obtain ⟨v, e1, e2⟩ := re.at_ i d (l.2 i d e)
    exact ⟨v, e1, e2.cut (c i d e)⟩⟩
theorem Grow.cut {M0 : Pl} {H0 : Hp} {st0 : DSt} {n : Nat} (g : Grow M0 H0 M H) (s0 : RS T K M0 st0 H0) (l : st0.length ≤ n) : Grow M0 H0 (M.cut n) H := by
  refine ⟨?_, g.keep, g.there, g.hid⟩
  obtain ⟨m, rfl, f⟩ := g.more
  refine ⟨m.take (n - st0.length), ?_, fun a ha => f a (List.mem_of_mem_take ha)⟩
  unfold Pl.cut Pl.app
  show Pl.mk M0.h ((M0.m ++ m).take (M0.h + n)) = _
  rw [List.take_append, List.take_of_length_le (by rw [s0.len]; omega), s0.len, show M0.h + n - (M0.h + st0.length) = n - st0.length by omega]
end
def Wk (b : DSt) (P : DEnv → DSt → Prop) : DEnv → DSt → Prop := fun r st => P r st ∨ ∃ r' n, b.length ≤ n ∧ n ≤ st.length ∧ Less r' r ∧ cloR n r' ∧ cloS b n st ∧ P r' (st.take n)
theorem Wk.sound {T : List (Addr × Str)} {K : Frag} {M M0 : Pl} {H H0 : Hp} {st st0 : DSt} {r : DEnv} {σ : L2.St} {P : DEnv → DSt → Prop} (h : Wk st0 P r st) (s0 : RS T K M0 st0 H0) (g : Grow M0 H0 M H) (s : RS T K M st H) (re : RE K M H r σ) :
    ∃ M' r' st', Grow M0 H0 M' H ∧ RS T K M' st' H ∧ RE K M' H r' σ ∧ P r' st' := by
  rcases h with h | ⟨r', n, h1, h2, h3, h4, h5, h6⟩
  · exact ⟨M, r, st, g, s, re, h⟩
  · exact ⟨M.cut n, r', st.take n, g.cut s0 h1, s.cut h2 (h5.all s0 h1), re.cut h3 h4, h6⟩
def forL (I : DIt) (g : DTG) (F : DTS) (E : DEnds) (b : DSt) : List D → DEnv → DSt → Prop
  | [], r, st => okI I st (E.nx r st)
  | d :: ds, r, st => okI I st (g d r st fun r1 st1 => F { nx := Wk b (forL I g F E b ds), rt := E.rt, bk := E.nx, ct := Wk b (forL I g F E b ds) } r1 st1)
def sFor (f : DTI) (g : DTG) (F : DTS) : DTS := fun E r st => f r st fun I st1 => forL I g F E st1 I.items r st1
section
variable {T : List (Addr × Str)} {X : Cx} {tg iter : Expr} {f : DTI} {g : DTG} {F : DTS} {pos : Pos} {vs : List Nat}
theorem ds_for {body : List Stmt} (hp : PassesOwn (model X.prog X.w) X.A X.env X.xe) (hc : X.calm = true) (hi : DI T X tg iter f) (hg : DG T X vs tg g) (hb : DSs T X body F) (hs : ∀ x, foldedSetIterable iter X.env x = pure x := by intro _; rfl) :
    DSt1 T X (.For tg iter body [] pos) (sFor f g F) :=
  PS.imp (ps_for hp hc hi hg hb hs) fun E σ H ⟨M, r, st, E', s, re, h, k⟩ => ⟨M, r, st, _, s, re, h, fun M1 H1 st1 J I g1 s1 q it => by
    refine ⟨fun i m σ' H' => ∃ M' r' st', Grow M1 H1 M' H' ∧ RS T X.K M' st' H' ∧ RE X.K M' H' r' σ' ∧ i ≤ I.items.length ∧ m = I.items.length - i ∧ forL I g F E' st1 (I.items.drop i) r' st', ⟨I.items.length, M1, r, st1, Grow.refl _ _, s1, re.grow g1, Nat.zero_le _, rfl, q⟩, fun i m σ' H' w => ?_⟩
    obtain ⟨M', r', st', gr, s', re', le, rfl, fl⟩ := w
    cases e : I.items.drop i with
    | nil =>
      rw [e] at fl
      obtain ⟨ok, q⟩ := okI.of fl
      have ei : i = I.items.length := by
        have := List.drop_eq_nil_iff.mp e
        omega
      refine .inl ⟨?_, k.nx M' H' σ' r' st' (g1.trans gr) s' re' q⟩
      rw [ei]
      exact it.stop M' H' st' gr.later s' ok
    | cons d ds =>
      rw [e] at fl
      obtain ⟨ok, q⟩ := okI.of fl
      have at_ : I.items[i]? = some d := by
        have z : (I.items.drop i)[0]? = some d := by rw [e]; rfl
        rw [List.getElem?_drop, Nat.add_zero] at z
        exact z
      have lt : i < I.items.length := (List.getElem?_eq_some_iff.mp at_).1
      have ds_ : I.items.drop (i + 1) = ds := by
        have z : (I.items.drop i).drop 1 = ds := by rw [e]; rfl
        rw [List.drop_drop] at z
        exact z
      obtain ⟨go, yl⟩ := it.go M' H' st' gr.later s' ok i d at_
      refine .inr ⟨go, fun σ2 H2 => ∃ M2 r2 st2, Grow M1 H1 M2 H2 ∧ RS T X.K M2 st2 H2 ∧ RE X.K M2 H2 r2 σ2 ∧ forL I g F E' st1 ds r2 st2, fun σ2 H2 ⟨M2, r2, st2, g2, s2, re2, q2⟩ => ⟨I.items.length - (i + 1), by omega, M2, r2, st2, g2, s2, re2, lt, rfl, by rw [ds_]; exact q2⟩, fun x H2 y => ?_⟩
      obtain ⟨g2, s2, r2⟩ := yl x H2 y
      refine ⟨M', r', st', d, _, s2, re'.grow g2, r2, q, fun M3 H3 σ3 r3 st3 g3 s3 re3 _ q3 => ?_⟩
      refine ⟨M3, r3, st3, _, s3, re3, q3, ?_⟩
      have g13 : Grow M1 H1 M3 H3 := (gr.trans g2).trans g3
      refine ⟨fun M4 H4 σ4 r4 st4 g4 s4 re4 q4 => ?_, (k.rt.grow g1).grow g13, (k.nx.grow g1).grow g13, fun M4 H4 σ4 r4 st4 g4 s4 re4 q4 => ?_⟩
      · exact (Wk.sound q4 s1 (g13.trans g4) s4 re4)
      · exact (Wk.sound q4 s1 (g13.trans g4) s4 re4)⟩
def whileL (t : DTT) (F : DTS) (E : DEnds) (b : DSt) : Nat → DEnv → DSt → Prop
  | 0, _, _ => False
  | n + 1, r, st => t r st fun c st1 => if c = true then F { nx := Wk b (whileL t F E b n), rt := E.rt, bk := E.nx, ct := Wk b (whileL t F E b n) } r st1 else E.nx r st1
def sWhile (t : DTT) (F : DTS) : DTS := fun E r st => ∃ n, whileL t F E st n r st
theorem ds_while {c : Expr} {body : List Stmt} {t : DTT} (hp : PassesOwn (model X.prog X.w) X.A X.env X.xe) (hc : DT T X c t) (hb : DSs T X body F) : DSt1 T X (.While c body [] pos) (sWhile t F) :=
  PS.imp (ps_while hp hc hb) fun E σ H ⟨M1, r, st1, E', s1, re, ⟨n, h⟩, k⟩ => by
    refine ⟨fun m σ' H' => ∃ M' r' st', Grow M1 H M' H' ∧ RS T X.K M' st' H' ∧ RE X.K M' H' r' σ' ∧ whileL t F E' st1 m r' st', ⟨n, M1, r, st1, Grow.refl _ _, s1, re, h⟩, fun m σ' H' w => ?_⟩
    obtain ⟨M', r', st', gr, s', re', wl⟩ := w
    cases m with
    | zero => exact wl.elim
    | succ m =>
      refine ⟨M', r', st', _, s', re', wl, fun M2 H2 st2 c g2 s2 q => ?_⟩
      cases c with
      | true =>
        rw [if_pos rfl] at q ⊢
        refine ⟨fun σ3 H3 => ∃ M3 r3 st3, Grow M1 H M3 H3 ∧ RS T X.K M3 st3 H3 ∧ RE X.K M3 H3 r3 σ3 ∧ whileL t F E' st1 m r3 st3, fun σ3 H3 z => ⟨m, Nat.lt_succ_self m, z⟩, M2, r', st2, _, s2, re'.grow g2, q, ?_⟩
        have g12 := gr.trans g2
        exact ⟨fun M4 H4 σ4 r4 st4 g4 s4 re4 q4 => Wk.sound q4 s1 (g12.trans g4) s4 re4, k.rt.grow g12, k.nx.grow g12, fun M4 H4 σ4 r4 st4 g4 s4 re4 q4 => Wk.sound q4 s1 (g12.trans g4) s4 re4⟩
      | false =>
        rw [if_neg (by decide)] at q ⊢
        exact k.nx M2 H2 σ' r' st2 (gr.trans g2) s2 (re'.grow g2) q
end
end DL
namespace DL
open PySem PySem.Spec PyProof.Rows L2 LamX PySem.W SL
def wipeD (r : DEnv) : List Nat → DEnv
  | [] => r
  | v :: vs => (wipeD r vs).set v none
theorem RE.forget {K : Frag} {M : Pl} {H : Hp} {r : DEnv} {σ : L2.St} (h : RE K M H r σ) (i : Nat) (x : Option V) : RE K M H (r.set i none) (σ.set i x) := by
  refine ⟨by rw [List.length_set, List.length_set]; exact h.len, fun j c e => ?_⟩
  by_cases q : j = i
  · subst q
    have lt : j < r.length := by
      have := (List.getElem?_eq_some_iff.mp e).1
      rw [List.length_set] at this
      exact this
    rw [List.getElem?_set_self lt] at e
    cases e
  · rw [List.getElem?_set_ne (fun z => q z.symm)] at e ⊢
    exact h.at_ j c e
theorem RE.wipe {K : Frag} {M : Pl} {H : Hp} {r : DEnv} {σ : L2.St} (h : RE K M H r σ) : ∀ vs : List Nat, RE K M H (wipeD r vs) (L2.wipe σ vs)
  | [] => h
  | v :: vs => (RE.wipe h vs).forget v none
theorem RE.later {K : Frag} {M M' : Pl} {H H' : Hp} {r : DEnv} {σ : L2.St} (h : RE K M H r σ) (g : Later M H M' H') : RE K M' H' r σ :=
  ⟨h.len, fun i d e => by obtain ⟨v, e1, e2⟩ := h.at_ i d e; exact ⟨v, e1, e2.later g⟩⟩
def dtYes : DTT := fun _ st Q => Q true st
def compL (I : DIt) (g : DTG) (tt : DTT) (te : DTE) (r : DEnv) (Q : List D → DSt → Prop) : List D → List D → DSt → Prop
  | [], acc, st => okI I st (Q acc st)
  | d :: ds, acc, st => okI I st (g d r st fun r2 st2 => tt r2 st2 fun b st3 => if b = true then te r2 st3 fun y st4 => compL I g tt te r Q ds (acc ++ [y]) st4 else compL I g tt te r Q ds acc st3)
def dLcG (f : DTI) (g : DTG) (tt : DTT) (te : DTE) (vs : List Nat) (fin : (D → DSt → Prop) → List D → DSt → Prop) : DTE := fun r st Q => f r st fun I st1 => I.items.length ≤ sizeLine ∧ compL I g tt te (wipeD r vs) (fin Q) I.items [] st1
def finT (Q : D → DSt → Prop) (acc : List D) (st : DSt) : Prop := Q (.lst acc) st
def finN (Q : D → DSt → Prop) (acc : List D) (st : DSt) : Prop := Q (.ref st.length) (st ++ [.lst acc])
def FinOk (T : List (Addr × Str)) (K : Frag) (fin : (D → DSt → Prop) → List D → DSt → Prop) : Prop := ∀ (M M' : Pl) (H H' : Hp) (st' : DSt) (p : Addr) (acc : List D) (xs : List V) (Q' : DK) (Q : VK), H p = none → Grow M H M' H' → RS T K (M'.hide p) st' H' →
  H' p = some (.lst xs) → RVs K (M'.hide p) H' acc xs → Kn T K M H Q' Q → fin Q' acc st' → Q (.ref p) H'
theorem finT_ok {T : List (Addr × Str)} {K : Frag} : FinOk T K finT := by
  intro M M' H H' st' p acc xs Q' Q np g s' hp r k q
  exact k M' H' st' (.lst acc) (.ref p) g s'.unhide (.lst (List.nodup_cons.mp s'.nd).1 hp (r.later later_unhide)) q
theorem Grow.andOwn {M M' : Pl} {H H' : Hp} {p : Addr} (g : Grow M H M' H') (np : H p = none) : Grow M H (M'.app [p]) H' := by
  refine ⟨?_, g.keep, g.there, g.hid⟩
  obtain ⟨m, rfl, f⟩ := g.more
  refine ⟨m ++ [p], by unfold Pl.app; simp, fun a ha => ?_⟩
  rcases List.mem_append.mp ha with z | z
  · exact f a z
  · rw [List.mem_singleton.mp z]; exact NT.no np
theorem finN_ok {T : List (Addr × Str)} {K : Frag} : FinOk T K finN := by
  intro M M' H H' st' p acc xs Q' Q np g s' hp r k q
  refine k (M'.app [p]) H' _ _ (.ref p) (g.andOwn np) (s'.own hp r) (.ref ?_) q
  unfold Pl.at_
  show (M'.m ++ [p])[M'.h + st'.length]? = some p
  rw [← s'.unhide.len]
  simp
theorem Grow.step {T : List (Addr × Str)} {K : Frag} {M M1 M2 : Pl} {H H1 H2 : Hp} {st : DSt} {p : Addr} {o : HO} (g : Grow M H M1 H1) (s : RS T K M st H) (np : H p = none) (g2 : Grow (M1.hide p) H1 (M2.hide p) H2) : Grow M H M2 (upd H2 p o) := by
  refine ⟨?_, fun a u n e t => ?_, fun a t => ?_, fun a ha => ?_⟩
  · obtain ⟨m1, rfl, f1⟩ := g.more
    obtain ⟨m2, e, f2⟩ := g2.more
    rw [Pl.hide_app] at e
    have e := Pl.hide_inj e
    subst e
    refine ⟨m1 ++ m2, by unfold Pl.app; simp, fun a ha => ?_⟩
    rcases List.mem_append.mp ha with z | z
    · exact f1 a z
    · exact fun q => f2 a z (g.there a q)
  · have ne : a ≠ p := ne_of_none e np
    rw [upd_ne ne]
    refine g2.keep a u (fun z => ?_) (g.keep a u n e t) t
    rcases List.mem_cons.mp z with z | z
    · exact ne z
    · exact g.notin n ⟨u, e, t⟩ z
  · exact (g2.there a (g.there a t)).upd (t.ne np)
  · obtain ⟨xs, e⟩ := s.hid a ha
    have ne : a ≠ p := ne_of_none e np
    rw [upd_ne ne]
    refine (g2.hid a ?_).trans (g.hid a ha)
    show a ∈ (p :: M1.m).take (M1.h + 1)
    rw [List.take_succ_cons]
    obtain ⟨m1, rfl, f1⟩ := g.more
    exact List.mem_cons_of_mem _ (take_app ha)
theorem upd_self {H : Hp} {p : Addr} {o : HO} (h : H p = some o) : upd H p o = H := by
  funext a
  by_cases z : a = p
  · rw [z, upd_same, h]
  · rw [upd_ne z]
theorem Grow.lateHide {M M' : Pl} {H H' : Hp} {p : Addr} (g : Grow M H M' H') (np : H p = none) : Later M H (M'.hide p) H' := by
  refine ⟨g.keep, fun n a h => by rw [Pl.hide_at]; exact g.get h, fun a n t z => ?_⟩
  rcases List.mem_cons.mp z with z | z
  · exact t.ne np z
  · exact g.notin n t z
theorem hidden_at {M : Pl} {p : Addr} : p ∈ (M.hide p).m.take (M.hide p).h := by
  show p ∈ (p :: M.m).take (M.h + 1)
  rw [List.take_succ_cons]
  exact List.mem_cons_self
theorem grow_hide {M M2 : Pl} {H H2 : Hp} {p : Addr} (g : Grow (M.hide p) H M2 H2) : ∃ N : Pl, M2 = N.hide p := by
  obtain ⟨m, rfl, _⟩ := g.more
  exact ⟨M.app m, Pl.hide_app M p m⟩
theorem RS.push {T : List (Addr × Str)} {K : Frag} {M : Pl} {H : Hp} {st : DSt} {p : Addr} {xs ys : List V} (s : RS T K (M.hide p) st H) (hp : H p = some (.lst xs)) : RS T K (M.hide p) st (upd H p (.lst ys)) ∧ Later (M.hide p) H (M.hide p) (upd H p (.lst ys)) := by
  have l : Later (M.hide p) H (M.hide p) (upd H p (.lst ys)) := ⟨fun a o n e _ => by
    rw [upd_ne fun z => n (by rw [z]; exact List.mem_cons_self)]
    exact e, fun _ _ h => h, fun _ h _ => h⟩
  refine ⟨⟨s.len, s.nd, fun n a o e1 e2 => ?_, tabs_upd s.tabs fun b u hb z => ?_, fun a ha => ?_⟩, l⟩
  · refine (s.obj n a o e1 e2).later l (upd_ne fun z => ?_)
    rw [Pl.hide_at] at e1
    exact (List.nodup_cons.mp s.nd).1 (by rw [← z]; exact Pl.at_mem e1)
  · exact (s.tabNe List.mem_cons_self hb z).symm
  · by_cases z : a = p
    · rw [z]; exact ⟨ys, upd_same⟩
    · rw [upd_ne z]; exact s.hid a ha
theorem wipe_wipe (σ : L2.St) (vs : List Nat) : L2.wipe (L2.wipe σ vs) vs = L2.wipe σ vs := by
  have no : ∀ (ws : List Nat) (τ : L2.St) (i : Nat), (L2.wipe τ ws).set i none = L2.wipe (τ.set i none) ws := by
    intro ws
    induction ws with
    | nil => intro τ i; rfl
    | cons w ws ih =>
      intro τ i
      show ((L2.wipe τ ws).set w none).set i none = (L2.wipe (τ.set i none) ws).set w none
      rw [← ih τ i]
      by_cases e : w = i
      · rw [e]
      · rw [List.set_comm _ _ e]
  induction vs generalizing σ with
  | nil => rfl
  | cons v vs ih =>
    show (L2.wipe ((L2.wipe σ vs).set v none) vs).set v none = (L2.wipe σ vs).set v none
    rw [← no vs (L2.wipe σ vs) v, ih, List.set_set]
theorem lift_lc {T : List (Addr × Str)} {K : Frag} {f : DTI} {g : DTG} {tt : DTT} {te : DTE} {vs : List Nat} {fin : (D → DSt → Prop) → List D → DSt → Prop} (fo : FinOk T K fin) {σ : L2.St} {H : Hp} {Q : VK} (h : lift T K (dLcG f g tt te vs fin) σ H Q) :
    tLc (liftI T K f) (liftG T K vs g) (liftT T K tt) (lift T K te) vs σ H Q := by
  obtain ⟨M, r, st, Q', s, re, h, k⟩ := h
  refine ⟨M, r, st, _, s, re, h, fun M1 H1 st1 J I g1 s1 q it p np => ?_⟩
  obtain ⟨few, q⟩ := q
  refine ⟨fun i m H' => ∃ (M' : Pl) (acc : List D) (xs : List V) (st' : DSt), Grow M1 H1 M' H' ∧ RS T K (M'.hide p) st' H' ∧ H' p = some (.lst xs) ∧ RVs K (M'.hide p) H' acc xs ∧ acc.length ≤ i ∧ i ≤ I.items.length ∧ m = I.items.length - i ∧
      compL I g tt te (wipeD r vs) (fin Q') (I.items.drop i) acc st', ⟨I.items.length, M1, [], [], st1, Grow.new s1.hid np, s1.hide np, upd_same, .nil, Nat.le_refl _, Nat.zero_le _, rfl, q⟩, fun i m H' w => ?_⟩
  obtain ⟨M', acc, xs, st', gr, s', hp, rs, la, le, rfl, cl⟩ := w
  have lat := gr.lateHide np
  have reN : RE K (M'.hide p) H' (wipeD r vs) (L2.wipe σ vs) := ((re.grow g1).wipe vs).later lat
  cases e : I.items.drop i with
  | nil =>
    rw [e] at cl
    obtain ⟨ok, q⟩ := okI.of cl
    have ei : i = I.items.length := by
      have := List.drop_eq_nil_iff.mp e
      omega
    exact .inl ⟨by rw [ei]; exact it.stop _ H' st' lat s' ok, fo M1 M' H1 H' st' p acc xs Q' Q np gr s' hp rs (k.grow g1) q⟩
  | cons d ds =>
    rw [e] at cl
    obtain ⟨ok, q⟩ := okI.of cl
    have at_ : I.items[i]? = some d := by
      have z : (I.items.drop i)[0]? = some d := by rw [e]; rfl
      rw [List.getElem?_drop, Nat.add_zero] at z
      exact z
    have lt : i < I.items.length := (List.getElem?_eq_some_iff.mp at_).1
    have ds_ : I.items.drop (i + 1) = ds := by
      have z : (I.items.drop i).drop 1 = ds := by rw [e]; rfl
      rw [List.drop_drop] at z
      exact z
    obtain ⟨go, yl⟩ := it.go _ H' st' lat s' ok i d at_
    refine .inr ⟨go, fun H2 => ∃ (M2 : Pl) (acc2 : List D) (xs2 : List V) (st2 : DSt), Grow M1 H1 M2 H2 ∧ RS T K (M2.hide p) st2 H2 ∧ H2 p = some (.lst xs2) ∧ RVs K (M2.hide p) H2 acc2 xs2 ∧ acc2.length ≤ i + 1 ∧ compL I g tt te (wipeD r vs) (fin Q') ds acc2 st2,
      fun H2 ⟨M2, acc2, xs2, st2, a1, a2, a3, a4, a5, a6⟩ => ⟨I.items.length - (i + 1), by omega, M2, acc2, xs2, st2, a1, a2, a3, a4, a5, lt, rfl, by rw [ds_]; exact a6⟩, fun x H2 y => ?_⟩
    obtain ⟨g2, s2, r2⟩ := yl x H2 y
    refine ⟨_, wipeD r vs, st', d, _, s2, reN.grow g2, r2, q, fun M3 H3 σ3 r3 st3 g3 s3 re3 w3 q3 => ⟨w3.trans (wipe_wipe σ vs), M3, r3, st3, _, s3, re3, q3, fun M4 H4 st4 b g4 s4 q4 => ?_⟩⟩
    have g24 := (g2.trans g3).trans g4
    cases b with
    | true =>
      rw [if_pos rfl] at q4
      refine iteT ?_
      refine ⟨M4, r3, st4, _, s4, re3.grow g4, q4, fun M5 H5 st5 z vz g5 s5 r5 q5 => ?_⟩
      have g25 := g24.trans g5
      obtain ⟨N5, rfl⟩ := grow_hide g25
      have hp5 : H5 p = some (.lst xs) := (g25.hid p hidden_at).trans hp
      obtain ⟨s6, l6⟩ := s5.push (ys := xs ++ [vz]) hp5
      refine ⟨xs, hp5, ?_, N5, acc ++ [z], xs ++ [vz], st5, gr.step s1 np g25, s6, upd_same, ?_, by rw [List.length_append]; simp; omega, q5⟩
      · rw [← rs.length]; omega
      · exact ((rs.grow g25).later l6).append (.cons (r5.later l6) .nil)
    | false =>
      rw [if_neg (by decide)] at q4
      refine iteF ?_
      obtain ⟨N4, rfl⟩ := grow_hide g24
      have hp4 : H4 p = some (.lst xs) := (g24.hid p hidden_at).trans hp
      refine ⟨N4, acc, xs, st4, ?_, s4, hp4, rs.grow g24, by omega, q4⟩
      have z := gr.step (o := .lst xs) s1 np g24
      rw [upd_self hp4] at z
      exact z
theorem PTs.imp {X : Cx} {e : List Expr} {t t' : TT} (h : PTs X e t) (i : ∀ σ H Q, t' σ H Q → t σ H Q) : PTs X e t' := ⟨fun pins s σ H Q I z => h.run pins s σ H Q I (i σ H Q z)⟩
abbrev DTs (T : List (Addr × Str)) (X : Cx) (e : List Expr) (f : DTT) : Prop := PTs X e (liftT T X.K f)
section
variable {T : List (Addr × Str)} {X : Cx}
theorem dts_nil : DTs T X [] dtYes := PTs.imp pts_nil fun σ H Q ⟨M, r, st, Q', s, re, h, k⟩ => k M H st true (Grow.refl M H) s h
theorem dts_one {c : Expr} {t : DTT} (h : DT T X c t) : DTs T X [c] t := pts_one h
variable {elt tg iter : Expr} {ifs : List Expr} {scope : Scope} {own : List (Str × Nat)} {pos : Pos} {f : DTI} {g : DTG} {tt : DTT} {te : DTE}
theorem de_lcG {fin : (D → DSt → Prop) → List D → DSt → Prop} (fo : FinOk T X.K fin) (hc : X.calm = true) (hN : X.N.Nodup) (hi : DI T X tg iter f) (ok : BlkOk X.N X.env.scope scope own)
    (hg : ∀ (s : Shared) (H : Hp) (C : Addr) (cl : List (Str × Addr)) (fp : List Addr), DG T (X.blk s H scope (compEnvC scope cl C X.env) fp) (own.map (·.2)) tg g) (ht : ∀ (s : Shared) (H : Hp) (C : Addr) (cl : List (Str × Addr)) (fp : List Addr), DTs T (X.blk s H scope (compEnvC scope cl C X.env) fp) ifs tt)
    (he : ∀ (s : Shared) (H : Hp) (C : Addr) (cl : List (Str × Addr)) (fp : List Addr), DE T (X.blk s H scope (compEnvC scope cl C X.env) fp) elt te) (hs : ∀ x, foldedSetIterable iter X.env x = pure x := by intro _; rfl) :
    DE T X (.ListComp elt [⟨tg, iter, ifs, 0⟩] scope pos) (dLcG f g tt te (own.map (·.2)) fin) :=
  PE.imp (pe_lc hc hN hi ok hg ht he hs) fun _ _ _ h => lift_lc fo h
theorem ds_setLcG {i : Nat} {y : Str} {py spos : Pos} {fin : (D → DSt → Prop) → List D → DSt → Prop} (fo : FinOk T X.K fin) (hc : X.calm = true) (hN : X.N.Nodup) (hy : X.N[i]? = some y) (hyl : X.env.scope.names.lookup y = some .local)
    (hsw : swapsWith (.ListComp elt [⟨tg, iter, ifs, 0⟩] scope pos) (some (.Name y py)) spos.line X.env = pure true) (hi : DI T X tg iter f) (ok : BlkOk X.N X.env.scope scope own)
    (hg : ∀ (s : Shared) (H : Hp) (C : Addr) (cl : List (Str × Addr)) (fp : List Addr), DG T (X.blk s H scope (compEnvC scope cl C X.env) fp) (own.map (·.2)) tg g) (ht : ∀ (s : Shared) (H : Hp) (C : Addr) (cl : List (Str × Addr)) (fp : List Addr), DTs T (X.blk s H scope (compEnvC scope cl C X.env) fp) ifs tt)
    (he : ∀ (s : Shared) (H : Hp) (C : Addr) (cl : List (Str × Addr)) (fp : List Addr), DE T (X.blk s H scope (compEnvC scope cl C X.env) fp) elt te) (hs : ∀ x, foldedSetIterable iter X.env x = pure x := by intro _; rfl) :
    DSt1 T X (.Assign [.Name y py] (.ListComp elt [⟨tg, iter, ifs, 0⟩] scope pos) spos) (sSet i (dLcG f g tt te (own.map (·.2)) fin)) :=
  PS.imp (ps_setLc hc hN hy hyl hsw hi ok hg ht he hs) fun E σ H ⟨M, r, st, E', s, re, h, k⟩ =>
    lift_lc fo ⟨M, r, st, _, s, re, h, fun M1 H1 st1 d v g1 s1 r1 q => k.nx M1 H1 _ _ st1 g1 s1 ((re.grow g1).set i r1) q⟩
end
end DL
namespace DL
open PySem PySem.Spec PyProof.Rows L2 LamX PySem.W SL
def spD (T : List (Addr × Str)) (K : Frag) (n : Nat) (g : DRs) : Sp := fun vs H Q _ => vs.length = n ∧ ∃ M st ds Q', RS T K M st H ∧ RVs K M H ds vs ∧ g ds st Q' ∧ Kn T K M H Q' Q
structure FnD (P : Program) (w : World) (K : Frag) (mg : Str → Option Value) (base : Heap) (T : List (Addr × Str)) (k : Nat) (f : Addr) (fd : FuncData) (ps : List Str) (g : DRs) : Prop where
  fn : FnG P w K mg base k f fd ps (spD T K ps.length g)
  ar : ∀ ds st Q, g ds st Q → ds.length = ps.length
mutual
/-- .. its own lists become lists that nobody writes to, at any depth -/
inductive Fz (st : DSt) (n : Nat) : D → D → Prop
  | same {d : D} : clo n d = true → Fz st n d d
  | tup {ds es : List D} : Fzs st n ds es → Fz st n (.tup ds) (.tup es)
  | tuk {ds es : List D} : Fzs st n ds es → Fz st n (.tuk ds) (.tuk es)
  | lst {ds es : List D} : Fzs st n ds es → Fz st n (.lst ds) (.lst es)
  | own {k : Nat} {ds es : List D} : n ≤ k → st[k]? = some (.lst ds) → Fzs st n ds es → Fz st n (.ref k) (.lst es)
inductive Fzs (st : DSt) (n : Nat) : List D → List D → Prop
  | nil : Fzs st n [] []
  | cons {d e : D} {ds es : List D} : Fz st n d e → Fzs st n ds es → Fzs st n (d :: ds) (e :: es)
end
theorem Fzs.same {st : DSt} {n : Nat} : ∀ {ds : List D}, clos n ds = true → Fzs st n ds ds
  | [], _ => .nil
  | d :: ds, h => by
    simp only [clos, Bool.and_eq_true] at h
    exact .cons (.same h.1) (Fzs.same h.2)
theorem notin_cut {T : List (Addr × Str)} {K : Frag} {M : Pl} {H : Hp} {st : DSt} {n m : Nat} {a : Addr} (s : RS T K M st H) (hr : M.at_ n = some a) (le : m ≤ n) : a ∉ (M.cut m).m := by
  intro z
  obtain ⟨i, hi⟩ := List.mem_iff_getElem?.mp z
  have hi' : (M.m.take (M.h + m))[i]? = _ := hi
  rw [List.getElem?_take] at hi'
  split at hi'
  · obtain ⟨l1, q1⟩ := List.getElem?_eq_some_iff.mp hi'
    obtain ⟨l2, q2⟩ := List.getElem?_eq_some_iff.mp hr
    have := (List.getElem_inj s.nd).mp (q1.trans q2.symm)
    omega
  · cases hi'
section
variable {T : List (Addr × Str)} {K : Frag} {M : Pl} {H : Hp} {st : DSt}
mutual
theorem Fz.rv (s : RS T K M st H) {n : Nat} : ∀ {d e : D} {v : V}, Fz st n d e → RV K M H d v → RV K (M.cut n) H e v
  | _, _, _, .same c, r => r.cut c
  | _, _, _, .tup f, .tup a b c r => .tup (cut_notin a) b c (f.rvs s r)
  | _, _, _, .tuk f, .tuk a b r => .tuk (cut_notin a) b (f.rvs s r)
  | _, _, _, .lst f, .lst a b r => .lst (cut_notin a) b (f.rvs s r)
  | _, _, _, .own (ds := ds) le e f, .ref hr => by
    obtain ⟨xs, e1, e2⟩ := s.obj _ _ _ hr e
    exact .lst (notin_cut s hr le) e1 (f.rvs s e2)
theorem Fzs.rvs (s : RS T K M st H) {n : Nat} : ∀ {d e : List D} {v : List V}, Fzs st n d e → RVs K M H d v → RVs K (M.cut n) H e v
  | _, _, _, .nil, .nil => .nil
  | _, _, _, .cons f fs, .cons r rs => .cons (f.rv s r) (fs.rvs s rs)
end
end
def Rt (b : DSt) (Q : DK) : DK := fun d st => Q d st ∨ (∃ n, b.length ≤ n ∧ n ≤ st.length ∧ clo n d = true ∧ cloS b n st ∧ Q d (st.take n)) ∨
  (∃ n d', b.length ≤ n ∧ n ≤ st.length ∧ Fz st n d d' ∧ cloS b n st ∧ Q d' (st.take n))
theorem Rt.sound {T : List (Addr × Str)} {K : Frag} {M M0 : Pl} {H H0 : Hp} {st st0 : DSt} {d : D} {v : V} {Q' : DK} {Q : VK} (h : Rt st0 Q' d st) (s0 : RS T K M0 st0 H0) (k : Kn T K M0 H0 Q' Q) (g : Grow M0 H0 M H) (s : RS T K M st H) (r : RV K M H d v) : Q v H := by
  rcases h with h | ⟨n, h1, h2, h3, h4, h5⟩ | ⟨n, d', h1, h2, h3, h4, h5⟩
  · exact k M H st d v g s r h
  · exact k (M.cut n) H (st.take n) d v (g.cut s0 h1) (s.cut h2 (h4.all s0 h1)) (r.cut h3) h5
  · exact k (M.cut n) H (st.take n) d' v (g.cut s0 h1) (s.cut h2 (h4.all s0 h1)) (h3.rv s r) h5
def startD (n : Nat) (ds : List D) : DEnv := ds.map some ++ List.replicate (n - ds.length) none
theorem RE.start {K : Frag} {M : Pl} {H : Hp} {ds : List D} {vs : List V} (r : RVs K M H ds vs) (N : List Str) : RE K M H (startD N.length ds) (L2.start N vs) := by
  unfold startD L2.start
  refine ⟨by simp [r.length], fun i d e => ?_⟩
  by_cases lt : i < ds.length
  · rw [List.getElem?_append_left (by rw [List.length_map]; exact lt), List.getElem?_map] at e
    rw [List.getElem?_append_left (by rw [List.length_map, ← r.length]; exact lt), List.getElem?_map]
    cases q : ds[i]? with
    | none => rw [q] at e; cases e
    | some y =>
      rw [q] at e
      cases e
      obtain ⟨v, e1, e2⟩ := r.get q
      exact ⟨v, by rw [e1]; rfl, e2⟩
  · rw [List.getElem?_append_right (by rw [List.length_map]; omega), List.getElem?_replicate] at e
    split at e <;> cases e
section
variable {P : Program} {w : World} {K : Frag} {mg : Str → Option Value} {base : Heap} {T : List (Addr × Str)}
theorem fnD_mk {x qual : Str} {st : Stmt} {f : Addr} {fd : FuncData} {N ps : List Str} {k : Nat} {g : DRs} {F' : DTS} (F : Fun K x qual st f fd) (sc : FnScope N ps (defScope st)) (ar : ∀ ds st Q, g ds st Q → ds.length = ps.length)
    (body : ∀ (cdv : Value) (A : Around) (outer : List Env) (s : Shared) (H : Hp) (E : XK), A.guards = some [] → Room k (A.deeper (envOfC qual (defScope st) s.heap.objs.size f cdv)) → DSs T (cxOf CX0 P w K mg base N qual (defScope st) f cdv A outer s H E).nox (defBody st) F')
    (sem : ∀ ds st Q, g ds st Q → F' { nx := fun _ st' => Rt st Q .non st', rt := Rt st Q } (startD N.length ds) st) : FnD P w K mg base T (k + 1) f fd ps g := by
  refine ⟨fnG_mk F sc (fun vs H Q E h => h.1) (fun cdv A outer s H vs Q E gd room h => ⟨_, body cdv A outer s H E gd room, ?_⟩), ar⟩
  obtain ⟨_, M, st', ds, Q', rs, rv, hg, kn⟩ := h
  refine ⟨M, startD N.length ds, st', _, rs, RE.start rv N, sem ds st' Q' hg, ?_⟩
  exact ⟨fun M1 H1 σ1 r1 st1 g1 s1 re1 q => Rt.sound q rs kn g1 s1 .non, fun M1 H1 st1 d v g1 s1 r1 q => Rt.sound q rs kn g1 s1 r1, fun _ _ _ _ _ _ _ _ q => q.elim, fun _ _ _ _ _ _ _ _ q => q.elim⟩
theorem FnD.mono {j k : Nat} {f : Addr} {fd : FuncData} {ps : List Str} {g : DRs} (F : FnD P w K mg base T j f fd ps g) (h : j ≤ k) : FnD P w K mg base T k f fd ps g :=
  ⟨⟨F.fn.size, fun A outer s H args us vs Q E gd room => F.fn.go A outer s H args us vs Q E gd (room.mono h)⟩, F.ar⟩
theorem FnD.imp {k : Nat} {f : Addr} {fd : FuncData} {ps : List Str} {g g' : DRs} (F : FnD P w K mg base T k f fd ps g) (h : ∀ ds st Q, g' ds st Q → g ds st Q) : FnD P w K mg base T k f fd ps g' :=
  ⟨⟨fun vs H Q E q => q.1, fun A outer s H args us vs Q E gd room e0 bd rel q => by
    obtain ⟨l, M, st, ds, Q', rs, rv, hg, kn⟩ := q
    exact F.fn.go A outer s H args us vs Q E gd room e0 bd rel ⟨l, M, st, ds, Q', rs, rv, h _ _ _ hg, kn⟩⟩, fun ds st Q q => F.ar ds st Q (h _ _ _ q)⟩
end
section
variable {T : List (Addr × Str)} {X : Cx} {a b : Expr} {fa fb : DTE} {pos : Pos}
theorem de_call {k : Nat} {f : Addr} {fd : FuncData} {ps : List Str} {g : DRs} {x : Str} {p : Pos} {e : Expr} {es : List Expr} {fs : DTA}
    (F : FnD X.prog X.w X.K X.mg X.base T k f fd ps g) (gd : X.A.guards = some []) (room : Room k X.A) (gl : Gl X x)
    (at_ : X.mg x = some (.ref f)) (keep : PySem.W.keepIn X.K (.ref f) = true) (bd : Binds X.K fd ps []) (args : DA T X (e :: es) fs)
    (h1 : (x == ("__debug__" : Str)) = false := by decide)
    (h2 : starEach (e :: es) X.env = (false, eval e X.env) :: starEach es X.env := by rfl)
    (h3 : (backTo pos (starEach es X.env)).any (·.1) = false := by rfl) :
    DE T X (.Call (.Name x p) (e :: es) [] pos) (dCB g fs) :=
  PE.imp (pe_callG F.fn gd room gl at_ keep bd args h1 h2 h3) fun σ H Q ⟨M, r, st, Q', s, re, h, k⟩ => ⟨M, r, st, _, s, re, h, fun M1 H1 st1 ds vs g1 s1 r1 q => by
    show spD T X.K ps.length g (vs ++ []) H1 Q E0
    rw [List.append_nil]
    exact ⟨by rw [← r1.length]; exact F.ar _ _ _ q, M1, st1, ds, Q', s1, r1, q, k.grow g1⟩⟩
def onL (st : DSt) (d : D) (k : Nat → List D → Prop) : Prop := match d with
  | .ref n => match st[n]? with | some (.lst xs) => k n xs | _ => False
  | _ => False
theorem onL.of {st : DSt} {d : D} {k : Nat → List D → Prop} (h : onL st d k) : ∃ n xs, d = .ref n ∧ st[n]? = some (.lst xs) ∧ k n xs := by
  cases d with
  | ref n =>
    unfold onL at h
    simp only at h
    split at h
    · rename_i xs e; exact ⟨n, xs, rfl, e, h⟩
    · exact h.elim
  | _ => exact h.elim
theorem onL.rd {T : List (Addr × Str)} {K : Frag} {M : Pl} {H : Hp} {st : DSt} {n : Nat} {xs : List D} {v : V} (s : RS T K M st H) (r : RV K M H (.ref n) v) (e : st[n]? = some (.lst xs)) : ∃ a ys, v = .ref a ∧ M.at_ n = some a ∧ H a = some (.lst ys) ∧ RVs K M H xs ys := by
  cases r with
  | ref hm =>
    obtain ⟨ys, e1, e2⟩ := s.obj n _ _ hm e
    exact ⟨_, ys, rfl, hm, e1, e2⟩
theorem Kn.setL {T : List (Addr × Str)} {K : Frag} {M : Pl} {H : Hp} {st : DSt} {Q' : DK} {Q : VK} {n : Nat} {a : Addr} {ds : List D} {ys : List V} {d : D} {v : V} (k : Kn T K M H Q' Q) (s : RS T K M st H) (hm : M.at_ n = some a) (r : RVs K M H ds ys) (rv : RV K M H d v) (q : Q' d (st.set n (.lst ds))) : Q v (upd H a (.lst ys)) := by
  have gw : Grow M H M (upd H a (.lst ys)) := Grow.write s.nd hm
  exact k M _ _ d v gw (s.write (u := .lst ds) hm ⟨ys, upd_same, r.grow gw⟩) (rv.grow gw) q
def MtD (T : List (Addr × Str)) (K : Frag) (r : V → List V → Hp → VK → Prop) (r' : D → List D → DSt → DK → Prop) : Prop := ∀ (M : Pl) (H : Hp) (st : DSt) (x : D) (ds : List D) (v : V) (vs : List V) (Q' : DK) (Q : VK), RS T K M st H → RV K M H x v → RVs K M H ds vs → r' x ds st Q' → Kn T K M H Q' Q → r v vs H Q
def LstD (st : DSt) (x : D) : Prop := match x with | .lst _ => True | .ref n => (match st[n]? with | some (.lst _) => True | _ => False) | _ => False
theorem LstD.ty {K : Frag} {M : Pl} {H : Hp} {st : DSt} {x : D} {v : V} (s : RS T K M st H) (r : RV K M H x v) (h : LstD st x) : tyV K "list" v H := by
  cases r with
  | lst n e rs => exact .inl ⟨rfl, _, .inl (.inl e)⟩
  | scr n e rs => exact h.elim
  | lsk e rs => exact h.elim
  | ref hm =>
    obtain ⟨o, e1, ro⟩ := s.atM hm
    unfold LstD at h
    simp only [e1] at h
    cases o with
    | lst xs => obtain ⟨ys, e2, _⟩ := ro; exact .inl ⟨rfl, ys, .inl (.inl e2)⟩
    | dK _ => exact h.elim
    | dT _ => exact h.elim
    | lk _ _ _ => exact h.elim
    | lkT _ _ _ => exact h.elim
    | ins _ _ => exact h.elim
  | _ => exact h.elim
def dMtL (r' : D → List D → DSt → DK → Prop) (fo : DTE) (fs : DTA) : DTE := fun r st Q => fo r st fun x st1 => LstD st1 x ∧ fs r st1 fun ds st2 => r' x ds st2 Q
theorem de_bmL {o e : Expr} {es : List Expr} {name : Str} {apos cpos : Pos} {id : String} {r : V → List V → Hp → VK → Prop} {r' : D → List D → DSt → DK → Prop} {fo : DTE} {fs : DTA} (slot : Slot "list" name id) (hty : typeOf (.builtin id) = pure (.type "method_descriptor")) (hm : MtR X id r) (hd : MtD T X.K r r') (ho : DE T X o fo) (ha : DA T X (e :: es) fs)
    (h1 : attributeBase o name X.env (eval o X.env) = eval o X.env := by rfl)
    (h2 : ((backTo cpos (starEach (e :: es) X.env)).all (fun x => !x.1) && (backToKw cpos (keywordEach [] X.env)).all (fun x => x.1.isSome) && decide ((e :: es).length + ([] : List Keyword).length + (if ([] : List Keyword).isEmpty then 0 else 1) < 30)) = true := by rfl)
    (h3 : (apos.endLine == cpos.line) = true := by rfl) (h4 : starEach (e :: es) X.env = (false, eval e X.env) :: starEach es X.env := by rfl) (h5 : (backTo cpos (starEach es X.env)).any (·.1) = false := by rfl) :
    DE T X (.Call (.Attribute o name apos) (e :: es) [] cpos) (dMtL r' fo fs) :=
  PE.imp (pe_bm PySem.F.plainAttrs_list slot hty hm ho ha h1 h2 h3 h4 h5) fun σ H Q ⟨M, ρ, st, Q', s, re, h, k⟩ => ⟨M, ρ, st, _, s, re, h, fun M1 H1 st1 x v g1 s1 r1 q => ⟨q.1.ty s1 r1, M1, ρ, st1, _, s1, re.grow g1, q.2, fun M2 H2 st2 ds vs g2 s2 r2 q2 =>
    hd M2 H2 st2 x ds v vs Q' Q s2 (r1.grow g2) r2 q2 ((k.grow g1).grow g2)⟩⟩
def mAppend : D → List D → DSt → DK → Prop := fun x ds st Q => on1 ds fun y => onL st x fun n xs => xs.length < sizeLine ∧ Q .non (st.set n (.lst (xs ++ [y])))
theorem mtD_append {K : Frag} : MtD T K rAppend mAppend := by
  intro M H st x ds v vs Q' Q s rx rs h k
  obtain ⟨y, rfl, h⟩ := on1.of h
  obtain ⟨n, xs, rfl, e, lt, q⟩ := onL.of h
  obtain ⟨w, rfl, rw'⟩ := rs.one
  obtain ⟨a, ys, rfl, hm, e1, e2⟩ := onL.rd s rx e
  exact ⟨a, ys, w, rfl, rfl, e1, by rw [← e2.length]; exact lt, k.setL s hm (e2.append (.cons rw' .nil)) .non q⟩
def mPopAt : D → List D → DSt → DK → Prop := fun x ds st Q => on1 ds fun y => onI y fun i => onL st x fun n xs => (-(2 ^ 63) ≤ i ∧ i < 2 ^ 63) ∧ onO (seqIndex? i xs.length) fun k => onO xs[k]? fun d => Q d (st.set n (.lst (xs.eraseIdx k)))
theorem mtD_popAt {K : Frag} : MtD T K rPopAt mPopAt := by
  intro M H st x ds v vs Q' Q s rx rs h k
  obtain ⟨y, rfl, h⟩ := on1.of h
  obtain ⟨i, rfl, h⟩ := onI.of h
  obtain ⟨n, xs, rfl, e, lt, q⟩ := onL.of h
  obtain ⟨j, e3, q⟩ := onO.of q
  obtain ⟨d, e4, q⟩ := onO.of q
  obtain ⟨w, rfl, rw'⟩ := rs.one
  cases rw'
  obtain ⟨a, ys, rfl, hm, e1, e2⟩ := onL.rd s rx e
  obtain ⟨z, e5, rz⟩ := e2.get e4
  exact ⟨a, ys, i, j, z, rfl, rfl, e1, lt.1, lt.2, by rw [← e2.length]; exact e3, e5, k.setL s hm (e2.eraseIdx j) rz q⟩
def intsD : List D → Option (List Int)
  | [] => some []
  | .int b :: r => (intsD r).map (b :: ·)
  | _ => none
theorem intsD_of : ∀ {ds : List D} {bs : List Int}, intsD ds = some bs → ds = bs.map D.int
  | [], bs, h => by cases h; rfl
  | .int b :: r, bs, h => by
    unfold intsD at h
    cases q : intsD r with
    | none => rw [q] at h; cases h
    | some cs => rw [q] at h; cases h; rw [intsD_of q]; rfl
  | .non :: r, bs, h => by cases h
  | .bl _ :: r, bs, h => by cases h
  | .str _ :: r, bs, h => by cases h
  | .tup _ :: r, bs, h => by cases h
  | .tuk _ :: r, bs, h => by cases h
  | .lst _ :: r, bs, h => by cases h
  | .scr _ :: r, bs, h => by cases h
  | .ref _ :: r, bs, h => by cases h
theorem intsD_map {α : Type} (g : α → Int) : ∀ xs : List α, intsD (xs.map fun x => D.int (g x)) = some (xs.map g)
  | [] => rfl
  | x :: r => by rw [List.map_cons, List.map_cons]; unfold intsD; rw [intsD_map g r]; rfl
theorem intsD_ints (ns : List Int) : intsD (ns.map D.int) = some ns := by
  have z := intsD_map (fun i : Int => i) ns
  rw [List.map_id'] at z
  exact z
def ixOf (z : Int) : List Int → Option Nat
  | [] => none
  | x :: r => if x = z then some 0 else (ixOf z r).map (· + 1)
theorem ixOf_spec {z : Int} : ∀ {ns : List Int} {j : Nat}, ixOf z ns = some j → ns[j]? = some z ∧ ∀ m, m < j → ns[m]? ≠ some z
  | [], j, h => by cases h
  | x :: r, j, h => by
    unfold ixOf at h
    by_cases e : x = z
    · rw [if_pos e] at h
      cases h
      exact ⟨by rw [e]; rfl, fun m lt => absurd lt (Nat.not_lt_zero m)⟩
    · rw [if_neg e] at h
      cases q : ixOf z r with
      | none => rw [q] at h; cases h
      | some k =>
        rw [q] at h
        cases h
        obtain ⟨a, b⟩ := ixOf_spec q
        refine ⟨a, fun m lt => ?_⟩
        cases m with
        | zero => intro w; cases w; exact e rfl
        | succ m => exact fun w => b m (Nat.lt_of_succ_lt_succ lt) (by simpa using w)
theorem ixOf_mem {z : Int} : ∀ {ns : List Int}, z ∈ ns → ∃ j, ixOf z ns = some j
  | x :: r, h => by
    unfold ixOf
    by_cases e : x = z
    · rw [if_pos e]; exact ⟨0, rfl⟩
    · rw [if_neg e]
      obtain ⟨j, q⟩ := ixOf_mem (List.mem_of_ne_of_mem (fun w => e w.symm) h)
      exact ⟨j + 1, by rw [q]; rfl⟩
def IdxD (st : DSt) (x : D) : Prop := match x with
  | .tup _ => True
  | .lst _ => True
  | .ref n => (match st[n]? with | some (.lst _) => True | _ => False)
  | _ => False
def ixS (st : DSt) : D → Option (List D)
  | .tup xs => some xs
  | .lst xs => some xs
  | .ref n => match st[n]? with | some (.lst ds) => some ds | _ => none
  | _ => none
def mIndex : D → List D → DSt → DK → Prop := fun x ds st Q => on1 ds fun y => onI y fun z => onO (ixS st x) fun xs => onO (intsD xs) fun ns => onO (ixOf z ns) fun j => Q (.int (j : Nat)) st
def dIndex (fo : DTE) (fs : DTA) : DTE := fun r st Q => fo r st fun x st1 => IdxD st1 x ∧ fs r st1 fun ds st2 => mIndex x ds st2 Q
theorem eqV_int (a b : Int) : eqV (.int a) (.int b) = decide (a = b) := by
  by_cases h : a = b
  · subst h; simp [eqV]
  · simp [eqV, h]
theorem flatV_ints (ns : List Int) : (ns.map V.int).all flatV = true := by
  rw [List.all_eq_true]
  intro x hx
  obtain ⟨i, _, rfl⟩ := List.mem_map.mp hx
  rfl
theorem rIndex_ints {K : Frag} {H : Hp} {a : Addr} {ns : List Int} {z : Int} {j : Nat} {Q : VK} (hs : SqL K H a (ns.map V.int)) (e : ixOf z ns = some j) (q : Q (.int (j : Nat)) H) : rIndex K (.ref a) [.int z] H Q := by
  obtain ⟨a1, a2⟩ := ixOf_spec e
  refine ⟨a, _, .int z, j, .int z, rfl, rfl, hs, rfl, flatV_ints ns, by rw [List.getElem?_map, a1]; rfl, by rw [eqV_int]; exact decide_eq_true rfl, fun m z' lt hz => ?_, q⟩
  rw [List.getElem?_map] at hz
  obtain ⟨u, hu, rfl⟩ := Option.map_eq_some_iff.mp hz
  rw [eqV_int]
  exact decide_eq_false fun w => a2 m lt (by rw [hu, w])
def tIdx2 (K : Frag) (to : TE) (t : TA) : TE := fun σ H Q => to σ H fun x H1 => ((∃ p xs, x = .ref p ∧ FzT H1 p xs) ∧ t σ H1 fun vs H2 => rIndexT K x vs H2 Q) ∨ (tyV K "list" x H1 ∧ t σ H1 fun vs H2 => rIndex K x vs H2 Q)
theorem pe_idx2 {o e : Expr} {es : List Expr} {to : TE} {t : TA} {apos cpos : Pos} (ho : PE X o to) (ha : PA X (e :: es) t)
    (h1 : attributeBase o "index" X.env (eval o X.env) = eval o X.env := by rfl)
    (h2 : ((backTo cpos (starEach (e :: es) X.env)).all (fun x => !x.1) && (backToKw cpos (keywordEach [] X.env)).all (fun x => x.1.isSome) && decide ((e :: es).length + ([] : List Keyword).length + (if ([] : List Keyword).isEmpty then 0 else 1) < 30)) = true := by rfl)
    (h3 : (apos.endLine == cpos.line) = true := by rfl) (h4 : starEach (e :: es) X.env = (false, eval e X.env) :: starEach es X.env := by rfl) (h5 : (backTo cpos (starEach es X.env)).any (·.1) = false := by rfl) :
    PE X (.Call (.Attribute o "index" apos) (e :: es) [] cpos) (tIdx2 X.K to t) := by
  constructor
  intro pins s σ H Q I h
  refine wpAny_Call_method_late h1 h2 h3 rfl (thn (ho.run pins s σ H _ I h) ?_)
  rintro v s1 ⟨x, H1, I1, r1, (⟨⟨p, xs, rfl, ob, hp, dn⟩, q1⟩ | ⟨ty, q1⟩)⟩
  · obtain rfl : v = Value.ref p := r1
    obtain ⟨at_, _, its, _, ob2, at2, cl, _⟩ := I1.hok p _ hp
    rw [at_] at at2
    cases at2
    refine ⟨"tuple", _, PySem.F.plainAttrs_tuple, PySem.F.slot_tuple_index, PySem.F.type_tuple_index, ⟨ob, at_, cl⟩, fun a ea => ?_, ?_⟩
    · cases ea
      exact ⟨ob, at_, dn⟩
    · have run := ha.run cpos pins s1 σ H1 _ I1 q1
      rw [h4] at run ⊢
      refine Calls.callWith_builtin (by show (false || (backTo cpos (starEach es X.env)).any (·.1)) = false; rw [h5]; rfl) (Calls.evalArgs_plain ?_)
      refine thn run ?_
      rintro us s2 ⟨vs, H2, I2, r2, q2⟩
      exact mt_tup_indexI pins s2 σ H2 (.ref p) vs _ us Q I2 rfl r2 q2
  · obtain ⟨y1, y2⟩ := tyV_is I1 r1 ty
    refine ⟨"list", _, PySem.F.plainAttrs_list, PySem.F.slot_list_index, PySem.F.type_list_index, y1, y2, ?_⟩
    have run := ha.run cpos pins s1 σ H1 _ I1 q1
    rw [h4] at run ⊢
    refine Calls.callWith_builtin (by show (false || (backTo cpos (starEach es X.env)).any (·.1)) = false; rw [h5]; rfl) (Calls.evalArgs_plain ?_)
    refine thn run ?_
    rintro us s2 ⟨vs, H2, I2, r2, q2⟩
    exact mt_index pins s2 σ H2 x vs v us Q I2 r1 r2 q2
theorem de_index {o e : Expr} {es : List Expr} {apos cpos : Pos} {fo : DTE} {fs : DTA} (ho : DE T X o fo) (ha : DA T X (e :: es) fs)
    (h1 : attributeBase o "index" X.env (eval o X.env) = eval o X.env := by rfl)
    (h2 : ((backTo cpos (starEach (e :: es) X.env)).all (fun x => !x.1) && (backToKw cpos (keywordEach [] X.env)).all (fun x => x.1.isSome) && decide ((e :: es).length + ([] : List Keyword).length + (if ([] : List Keyword).isEmpty then 0 else 1) < 30)) = true := by rfl)
    (h3 : (apos.endLine == cpos.line) = true := by rfl) (h4 : starEach (e :: es) X.env = (false, eval e X.env) :: starEach es X.env := by rfl) (h5 : (backTo cpos (starEach es X.env)).any (·.1) = false := by rfl) :
    DE T X (.Call (.Attribute o "index" apos) (e :: es) [] cpos) (dIndex fo fs) :=
  PE.imp (pe_idx2 ho ha h1 h2 h3 h4 h5) fun σ H Q ⟨M, ρ, st, Q', s, re, h, k⟩ => ⟨M, ρ, st, _, s, re, h, fun M1 H1 st1 x v g1 s1 r1 q => by
    obtain ⟨qt, q⟩ := q
    cases x with
    | tup xs =>
      have r1' := r1
      cases r1 with
      | tup n e0 e3 rs =>
        refine .inl ⟨⟨_, _, rfl, _, e0, e3⟩, M1, ρ, st1, _, s1, re.grow g1, q, fun M2 H2 st2 ds vs g2 s2 r2 q2 => ?_⟩
        obtain ⟨y, rfl, q3⟩ := on1.of q2
        obtain ⟨z, rfl, q4⟩ := onI.of q3
        obtain ⟨xs', e0, q4⟩ := onO.of q4
        cases e0
        obtain ⟨ns, e1, q5⟩ := onO.of q4
        obtain ⟨j, e2, q6⟩ := onO.of q5
        obtain ⟨w, rfl, rw'⟩ := r2.one
        cases rw'
        have e1 := intsD_of e1
        subst e1
        have r3 := r1'.grow g2
        cases r3 with
        | tup n' e0' e3' rs' =>
          have zz := rs'.ints
          subst zz
          obtain ⟨a1, a2⟩ := ixOf_spec e2
          exact ⟨_, ns, z, j, rfl, rfl, .inl (.inr ⟨_, e0'⟩), a1, a2, ((k.grow g1).grow g2).here s2 (.int _) q6⟩
    | lst xs =>
      have r1' := r1
      cases r1 with
      | lst n e0 rs =>
        refine .inr ⟨.inl ⟨rfl, _, .inl (.inl e0)⟩, M1, ρ, st1, _, s1, re.grow g1, q, fun M2 H2 st2 ds vs g2 s2 r2 q2 => ?_⟩
        obtain ⟨y, rfl, q3⟩ := on1.of q2
        obtain ⟨z, rfl, q4⟩ := onI.of q3
        obtain ⟨xs', e0, q4⟩ := onO.of q4
        cases e0
        obtain ⟨ns, e1, q5⟩ := onO.of q4
        obtain ⟨j, e2, q6⟩ := onO.of q5
        obtain ⟨w, rfl, rw'⟩ := r2.one
        cases rw'
        have e1 := intsD_of e1
        subst e1
        have r3 := r1'.grow g2
        cases r3 with
        | lst n' e0' rs' =>
          have zz := rs'.ints
          subst zz
          exact rIndex_ints (.inl (.inl e0')) e2 (((k.grow g1).grow g2).here s2 (.int _) q6)
    | ref m =>
      have r1' := r1
      cases r1 with
      | ref hm =>
        obtain ⟨o1, eo, ro⟩ := s1.atM hm
        unfold IdxD at qt
        simp only [eo] at qt
        cases o1 with
        | dK _ => exact qt.elim
        | dT _ => exact qt.elim
        | lk _ _ _ => exact qt.elim
        | lkT _ _ _ => exact qt.elim
        | ins _ _ => exact qt.elim
        | lst zs =>
          obtain ⟨ys, hy, _⟩ := ro
          refine .inr ⟨.inl ⟨rfl, ys, .inl (.inl hy)⟩, M1, ρ, st1, _, s1, re.grow g1, q, fun M2 H2 st2 ds vs g2 s2 r2 q2 => ?_⟩
          obtain ⟨y, rfl, q3⟩ := on1.of q2
          obtain ⟨z, rfl, q4⟩ := onI.of q3
          obtain ⟨xs', e0, q4⟩ := onO.of q4
          obtain ⟨ns, e1, q5⟩ := onO.of q4
          obtain ⟨j, e2, q6⟩ := onO.of q5
          obtain ⟨w, rfl, rw'⟩ := r2.one
          cases rw'
          have e1 := intsD_of e1
          subst e1
          have r3 := r1'.grow g2
          cases r3 with
          | ref hm2 =>
            obtain ⟨o2, eo2, ro2⟩ := s2.atM hm2
            unfold ixS at e0
            simp only [eo2] at e0
            cases o2 with
            | dK _ => cases e0
            | dT _ => cases e0
            | lk _ _ _ => cases e0
            | lkT _ _ _ => cases e0
            | ins _ _ => cases e0
            | lst us =>
              cases e0
              obtain ⟨ws, hw, rs'⟩ := ro2
              have zz := rs'.ints
              subst zz
              exact rIndex_ints (.inl (.inl hw)) e2 (((k.grow g1).grow g2).here s2 (.int _) q6)
    | _ => exact qt.elim⟩
end
end DL
namespace DL
open PySem PySem.Spec PyProof.Rows L2 LamX PySem.W SL
theorem mulOne (l : Addr) (its : Array Value) (n : Nat) (dd : Option Addr) (sl : Array (Option Value)) (u : Tok) :
    Meets (Builtin.«tuple.__mul__» ⟨[.ref l, .int 1 u], []⟩) (fun _ R s => s.heap.get? l = some ⟨.type "tuple", dd, .seq its n, sl⟩ ∧ R (.ok (.ret (.ref l))) s) :=
  .of_wp fun prog w A R s h => by
    obtain ⟨hp, g, d, tk, os⟩ := s
    obtain ⟨hl, q⟩ := h
    have f1 := AutoSeq1.idx_int
    wp_walk using wpAny_loadPart' hl
    exact ⟨_, rfl, q⟩
def rRepF (K : Frag) : R2 := fun x y H Q => ∃ (l : Addr) (k : Nat) (xs : List V), x = .ref l ∧ y = .int k ∧ SqT K H l xs ∧ xs ≠ [] ∧ 1 ≤ k ∧ k ≤ 1000 ∧ xs.length ≤ 1000 ∧
  (k = 1 → Q (.ref l) H) ∧ (2 ≤ k → ∀ (p : Addr) (ob : Obj), H p = none → ob.dict = none → Q (.ref p) (upd H p (.frz ob (.tup (List.replicate k xs).flatten))))
theorem op_repF {X : Cx} : OpR X (binaryOp .Mult) (rRepF X.K) := by
  intro pins s σ H x y v u Q I rx ry h
  obtain ⟨l, k, xs, rfl, rfl, hT, hne, k1, k2, hz, q1, q2⟩ := h
  cases rx
  obtain ⟨t, rfl⟩ := ry
  obtain ⟨its, r, ⟨⟨cls, dd, data, sl⟩, ho, hc, n, hd⟩, hs⟩ := I.tuple hT
  simp only at hc hd
  subst hc hd
  have le : its.length = xs.length := r.length.symm
  by_cases e : k = 1
  · subst e
    exact wpAny_binaryOp_repeat_ref (T := "tuple") (U := "int") (by decide)
      ⟨_, ho, rfl⟩ (fun s' => typeIs_int s' _ t) noFill_tuple_mul F.fills_int_mul
      F.slot_int_rmul repeat_tuple F.slot_int_index.lookup
      (call_meets F.slot_int_rmul (typeIs_int s _ t) F.entry_int_rmul
        (F.args_int_rmul_2 _ _) (int_rmul_tuple _ t l its.toArray n dd sl)
        ⟨ho, rfl, ⟨_, ho, rfl⟩, call_meets F.slot_tuple_mul ⟨_, ho, rfl⟩
          F.entry_tuple_mul (F.args_tuple_mul_2 _ _) (mulOne l its.toArray n dd sl t) ⟨ho, .ref l, H, I, rfl, q1 rfl⟩⟩)
  · have two : 2 ≤ k := by omega
    have ne : its.toArray.isEmpty = false := by
      cases its with
      | nil => exact absurd (List.eq_nil_of_length_eq_zero le.symm) hne
      | cons _ _ => rfl
    have sz : its.toArray.size = xs.length := by rw [List.size_toArray, le]
    have nat : xs.length * k ≤ 1000000 := Nat.le_trans (Nat.mul_le_mul hz k2) (by decide)
    have big : ((its.toArray.size : Nat) : Int) * (k : Int) ≤ 1000000 := by
      rw [sz]
      rw [← Int.natCast_mul]
      exact Int.ofNat_le.mpr nat
    have fl : (List.replicate k its).flatten.length ≤ sizeLine := by
      rw [lm_len_rep_flat, le, sizeLine_eq, Nat.mul_comm]
      omega
    have z0 : (decide ((k : Int) < -(2 ^ 63)) || decide ((k : Int) ≥ 2 ^ 63)) = false := by
      rw [Bool.or_eq_false_iff]
      exact ⟨decide_eq_false (by omega), decide_eq_false (by omega)⟩
    have z1 : (its.toArray.isEmpty || (k : Int) == 1) = false := by
      rw [ne]
      exact beq_eq_false_iff_ne.mpr (by omega)
    have z2 : (decide ((k : Int) ≤ 0) || its.toArray.isEmpty) = false := by
      rw [ne, decide_eq_false (by omega)]
      rfl
    have z4 : Builtin.Tuple.tupleTooMany (((its.toArray.size : Nat) : Int) * (k : Int)) = false := by
      unfold Builtin.Tuple.tupleTooMany
      refine decide_eq_false ?_
      rw [sizeLine_eq]
      omega
    refine wpAny_binaryOp_repeat_ref (T := "tuple") (U := "int") (by decide)
      ⟨_, ho, rfl⟩ (fun s' => typeIs_int s' _ t) noFill_tuple_mul F.fills_int_mul
      F.slot_int_rmul repeat_tuple F.slot_int_index.lookup
      (call_meets F.slot_int_rmul (typeIs_int s _ t) F.entry_int_rmul
        (F.args_int_rmul_2 _ _) (int_rmul_tuple _ t l its.toArray n dd sl)
        ⟨ho, rfl, ⟨_, ho, rfl⟩, call_meets F.slot_tuple_mul ⟨_, ho, rfl⟩
          F.entry_tuple_mul (F.args_tuple_mul_2 _ _) (tuple_mulW l its.toArray n dd sl _ t z0 z1 z2 (by omega) z4 (by rw [size_rep, List.size_toArray]; exact fl)) ⟨ho, ?_⟩⟩)
    rw [size_rep]
    refine ⟨.ref s.heap.objs.size, _, I.laid (t' := s.toks) (o := .frz { cls := .type "tuple", data := .seq (List.replicate (k : Int).toNat its).flatten.toArray } (.tup (List.replicate k xs).flatten))
      (fun b ob q => Heap.get?_push_of_some _ q) (Nat.le_refl _) ?_, rfl, q2 two _ _ (I.hok.fresh (Nat.le_refl _)) rfl⟩
    exact ⟨Heap.get?_push_size _ rfl, by rw [lm_len_rep_flat, ← le, ← lm_len_rep_flat]; exact fl, _, r.rep k, IsTup.new _ _⟩
end DL
namespace DL
open PySem PySem.Spec PyProof.Rows L2 LamX PySem.W SL
def lstS (st : DSt) : D → Option (List D)
  | .lst ds => some ds
  | .ref n => match st[n]? with | some (.lst ds) => some ds | _ => none
  | _ => none
section
variable {T : List (Addr × Str)} {X : Cx} {K : Frag} {M : Pl} {H : Hp} {st : DSt}
theorem lstS.rd {d : D} {v : V} {ds : List D} (s : RS T K M st H) (r : RV K M H d v) (e : lstS st d = some ds) : ∃ a xs, v = .ref a ∧ H a = some (.lst xs) ∧ RVs K M H ds xs := by
  cases r with
  | lst n h rs => cases e; exact ⟨_, _, rfl, h, rs⟩
  | ref h =>
    obtain ⟨o, e1, ro⟩ := s.atM h
    unfold lstS at e
    simp only [e1] at e
    cases o with
    | lst xs => cases e; obtain ⟨ys, q, rs⟩ := ro; exact ⟨_, ys, rfl, q, rs⟩
    | dK _ => cases e
    | dT _ => cases e
    | lk _ _ _ => cases e
    | lkT _ _ _ => cases e
    | ins _ _ => cases e
  | _ => cases e
theorem fin_new' {fin : DK → List D → DSt → Prop} (fo : fin = finT ∨ fin = finN) {ds : List D} {xs : List V} {Q' : DK} {Q : VK} {q : Addr} (k : Kn T K M H Q' Q) (s : RS T K M st H) (r : RVs K M H ds xs) (nq : H q = none) (h : fin Q' ds st) : Q (.ref q) (upd H q (.lst xs)) := by
  rcases fo with rfl | rfl
  · exact k.lst s r nq h
  · exact k.own s r nq h
def mExtend : D → List D → DSt → DK → Prop := fun x ds st Q => on1 ds fun y => onL st x fun n xs => onO (lstS st y) fun ys => xs.length + ys.length ≤ sizeLine ∧ Q .non (st.set n (.lst (xs ++ ys)))
theorem mtD_extend : MtD T K rExtend mExtend := by
  intro M H st x ds v vs Q' Q s r rs h k
  obtain ⟨y, rfl, h⟩ := on1.of h
  obtain ⟨n, xs, rfl, e, h⟩ := onL.of h
  obtain ⟨ys, e2, le, q⟩ := onO.of h
  obtain ⟨w, rfl, rw'⟩ := rs.one
  obtain ⟨a, us, rfl, hm, ha, ru⟩ := onL.rd s r e
  obtain ⟨b, zs, rfl, hb, rz⟩ := lstS.rd s rw' e2
  exact ⟨a, b, us, zs, rfl, rfl, ha, hb, by rw [← ru.length, ← rz.length]; exact le, k.setL s hm (ru.append rz) .non q⟩
def mPop : D → List D → DSt → DK → Prop := fun x ds st Q => ds = [] ∧ onL st x fun n xs => onO xs[xs.length - 1]? fun d => Q d (st.set n (.lst xs.dropLast))
theorem RVs.dropLast {ds : List D} {vs : List V} (r : RVs K M H ds vs) : RVs K M H ds.dropLast vs.dropLast := by
  rw [List.dropLast_eq_take, List.dropLast_eq_take, ← r.length]
  exact r.take _
end
end DL
namespace DL
open PySem PySem.Spec PyProof.Rows L2 LamX PySem.W SL
section
variable {T : List (Addr × Str)} {X : Cx} {a b c e : Expr} {es : List Expr} {fa fb fc f : DTE} {fs : DTA} {pos p : Pos} {K : Frag}
def dAddG (fin : DK → List D → DSt → Prop) : DR2 := fun x y st Q => match x, y with
  | .int i, .int j => Q (.int (i + j)) st
  | .tup xs, .tup ys => xs.length + ys.length ≤ sizeLine ∧ Q (.tup (xs ++ ys)) st
  | .str i, .str j => i.length + j.length ≤ sizeLine ∧ Q (.str (i ++ j)) st
  | x, y => onO (lstS st x) fun xs => onO (lstS st y) fun ys => xs.length + ys.length ≤ sizeLine ∧ fin Q (xs ++ ys) st
abbrev dAdd : DR2 := dAddG finT
def rAdd (K : Frag) : R2 := fun x y H Q => ((rI0 fun i j => .int (i + j)) x y H Q ∨ rCatF K x y H Q) ∨ ((∃ i j, x = .str i ∧ y = .str j ∧ i.length + j.length ≤ sizeLine ∧ Q (.str (i ++ j)) H) ∨ rCat x y H Q)
theorem op_addA : OpR X (binaryOp .Add) (rAdd X.K) := OpR.or (OpR.or op_add op_catF) (OpR.or op_add_str op_cat)
theorem opD_add {fin : DK → List D → DSt → Prop} (fo : fin = finT ∨ fin = finN) : OpD T K (rAdd K) (dAddG fin) := by
  intro M H st x y vx vy Q' Q s rx ry h k
  unfold dAddG at h
  split at h
  · cases rx
    cases ry
    exact .inl (.inl ⟨_, _, rfl, rfl, k.here s (.int _) h⟩)
  · obtain ⟨le, q⟩ := h
    have rx' := rx
    have ry' := ry
    cases rx with
    | tup n1 e1 d1 r1 =>
      cases ry with
      | tup n2 e2 d2 r2 =>
        refine .inl (.inr ⟨_, _, _, _, rfl, rfl, .inl (.inr ⟨_, e1⟩), .inl (.inr ⟨_, e2⟩), by rw [← r1.length, ← r2.length]; exact le, fun z => ?_, fun z1 z => ?_, fun z1 z2 p ob np hd => k.tup s (r1.append r2) np hd q⟩)
        · have zz := r1.nil_iff.mpr z
          subst zz
          exact k.here s ry' q
        · have zz := r2.nil_iff.mpr z
          subst zz
          rw [List.append_nil] at q
          exact k.here s rx' q
  · cases rx
    cases ry
    exact .inr (.inl ⟨_, _, rfl, rfl, h.1, k.here s (.str _) h.2⟩)
  · obtain ⟨xs, e1, h⟩ := onO.of h
    obtain ⟨ys, e2, le, q⟩ := onO.of h
    obtain ⟨a, us, rfl, ha, ru⟩ := lstS.rd s rx e1
    obtain ⟨b, ws, rfl, hb, rw'⟩ := lstS.rd s ry e2
    exact .inr (.inr ⟨a, b, us, ws, rfl, rfl, ha, hb, by rw [← ru.length, ← rw'.length]; exact le, fun p np => fin_new' fo k s (ru.append rw') np q⟩)
theorem de_add (ha : DE T X a fa) (hb : DE T X b fb) : DE T X (.BinOp a .Add b pos) (dOp dAdd fa fb) := de_op op_addA (opD_add (.inl rfl)) ha hb
theorem RVs.reverse {M : Pl} {H : Hp} : ∀ {ds : List D} {xs : List V}, RVs K M H ds xs → RVs K M H ds.reverse xs.reverse
  | _, _, .nil => .nil
  | _, _, .cons h t => by
    rw [List.reverse_cons, List.reverse_cons]
    exact (RVs.reverse t).append (.cons h .nil)
theorem RVs.rep {M : Pl} {H : Hp} {ds : List D} {xs : List V} (r : RVs K M H ds xs) : ∀ n : Nat, RVs K M H (List.replicate n ds).flatten (List.replicate n xs).flatten
  | 0 => .nil
  | n + 1 => by
    rw [List.replicate_succ, List.replicate_succ, List.flatten_cons, List.flatten_cons]
    exact r.append (RVs.rep r n)
def dMulG (fin : DK → List D → DSt → Prop) : DR2 := fun x y st Q => match x, y with
  | .int i, .int j => CMul i j ∧ Q (.int (i * j)) st
  | .tup xs, .int k => xs ≠ [] ∧ 1 ≤ k ∧ k ≤ 1000 ∧ xs.length ≤ 1000 ∧ Q (.tup (List.replicate k.toNat xs).flatten) st
  | x, .int k => onO (lstS st x) fun xs => (-1000 ≤ k ∧ xs.length * k.toNat ≤ 1000 ∧ k ≤ 100000000) ∧ fin Q (List.replicate k.toNat xs).flatten st
  | _, _ => False
abbrev dMul : DR2 := dMulG finT
def rMulA (K : Frag) : R2 := fun x y H Q => ((rI CMul fun i j => .int (i * j)) x y H Q ∨ rRepF K x y H Q) ∨ rRep x y H Q
theorem op_mulA : OpR X (binaryOp .Mult) (rMulA X.K) := OpR.or (OpR.or op_mul op_repF) op_rep
theorem opD_mul {fin : DK → List D → DSt → Prop} (fo : fin = finT ∨ fin = finN) : OpD T K (rMulA K) (dMulG fin) := by
  intro M H st x y vx vy Q' Q s rx ry h k
  unfold dMulG at h
  split at h
  · cases rx
    cases ry
    exact .inl (.inl ⟨_, _, rfl, rfl, h.1, k.here s (.int _) h.2⟩)
  · rename_i ds m
    obtain ⟨h1, h2, h3, h4, q⟩ := h
    have rx' := rx
    cases ry
    cases rx with
    | tup n1 e1 d1 r1 =>
      have em : ((m.toNat : Nat) : Int) = m := by omega
      refine .inl (.inr ⟨_, m.toNat, _, rfl, by rw [em], .inl (.inr ⟨_, e1⟩), fun z => h1 (r1.nil_iff.mpr z), by omega, by omega, by rw [← r1.length]; exact h4, fun z => ?_, fun _ p ob np hd => k.tup s (r1.rep m.toNat) np hd q⟩)
      rw [z, List.replicate_one, List.flatten_singleton] at q
      exact k.here s rx' q
  · obtain ⟨xs, e1, ⟨h1, h2, h3⟩, q⟩ := onO.of h
    obtain ⟨a, us, rfl, ha, ru⟩ := lstS.rd s rx e1
    cases ry
    have big : (1000 : Nat) ≤ sizeLine := by decide
    exact .inr ⟨a, _, us, rfl, rfl, ha, by omega, by omega, by rw [← ru.length]; omega, fun p np => fin_new' fo k s (ru.rep _) np q⟩
  · exact h.elim
theorem de_mul (ha : DE T X a fa) (hb : DE T X b fb) : DE T X (.BinOp a .Mult b pos) (dOp dMul fa fb) := de_op op_mulA (opD_mul (.inl rfl)) ha hb
def dRevV (x : D) (st : DSt) (Q : DK) : Prop := match x with
  | .tup xs => Q (.tup xs.reverse) st
  | _ => False
def dRev (f : DTE) : DTE := fun r st Q => f r st fun x st1 => dRevV x st1 Q
abbrev DTO := DEnv → DSt → (Option Int → DSt → Prop) → Prop
def liftO (T : List (Addr × Str)) (K : Frag) (f : DTO) : TO := fun σ H Q => ∃ M r st Q', RS T K M st H ∧ RE K M H r σ ∧ f r st Q' ∧ ∀ M' H' st' o, Grow M H M' H' → RS T K M' st' H' → Q' o st' → Q o H'
abbrev DO (T : List (Addr × Str)) (X : Cx) (e : Option Expr) (f : DTO) : Prop := PO X e (liftO T X.K f)
theorem PO.imp {e : Option Expr} {t t' : TO} (h : PO X e t) (i : ∀ σ H Q, t' σ H Q → t σ H Q) : PO X e t' := ⟨fun pins s σ H Q I z => h.run pins s σ H Q I (i σ H Q z)⟩
def oNone : DTO := fun _ st Q => Q none st
def oSome (f : DTE) : DTO := fun r st Q => f r st fun d st1 => onI d fun i => Q (some i) st1
theorem do_none : DO T X none oNone := PO.imp po_none fun σ H Q ⟨M, r, st, Q', s, re, h, k⟩ => k M H st none (Grow.refl M H) s h
theorem do_some (he : DE T X e f) : DO T X (some e) (oSome f) := PO.imp (po_some he) fun σ H Q ⟨M, r, st, Q', s, re, h, k⟩ => ⟨M, r, st, _, s, re, h, fun M1 H1 st1 d v g1 s1 r1 q => by
  obtain ⟨i, rfl, q⟩ := onI.of q
  cases r1
  exact ⟨i, rfl, k M1 H1 st1 _ g1 s1 q⟩⟩
def cutD (xs : List D) (lo hi : Option Int) : List D := (xs.drop (HT.sIx xs.length 0 lo)).take (HT.sIx xs.length xs.length hi - HT.sIx xs.length 0 lo)
theorem RVs.cutV {M : Pl} {H : Hp} {ds : List D} {vs : List V} (r : RVs K M H ds vs) (lo hi : Option Int) : RVs K M H (cutD ds lo hi) (L2.cutV vs lo hi) := by
  unfold cutD L2.cutV
  rw [r.length]
  exact (r.drop _).take _
def dSlV (fin : DK → List D → DSt → Prop) : D → Option Int → Option Int → DSt → DK → Prop := fun x lo hi st Q => match x with
  | .tup xs => Q (.tup (cutD xs lo hi)) st
  | .lst xs => fin Q (cutD xs lo hi) st
  | .ref n => onO (seqS st (.ref n)) fun xs => fin Q (cutD xs lo hi) st
  | _ => False
def dSlG (fin : DK → List D → DSt → Prop) (f : DTE) (lo hi : DTO) : DTE := fun r st Q => f r st fun x st1 => lo r st1 fun l st2 => hi r st2 fun u st3 => dSlV fin x l u st3 Q
def rSl2 (K : Frag) : V → Option Int → Option Int → Hp → VK → Prop := fun x lo hi H Q => rSlF K x lo hi H Q ∨ rSlL K x lo hi H Q
theorem sl_2 : SlR X (rSl2 X.K) := SlR.or sl_F sl_list
theorem fin_new {fin : DK → List D → DSt → Prop} (fo : fin = finT ∨ fin = finN) {M : Pl} {H : Hp} {st : DSt} {ds : List D} {xs : List V} {Q' : DK} {Q : VK} {q : Addr} (k : Kn T K M H Q' Q) (s : RS T K M st H) (r : RVs K M H ds xs) (nq : H q = none) (h : fin Q' ds st) : Q (.ref q) (upd H q (.lst xs)) := by
  rcases fo with rfl | rfl
  · exact k.lst s r nq h
  · exact k.own s r nq h
theorem cut_whole {xs : List D} {lo hi : Option Int} (h : HT.sIx xs.length 0 lo = 0 ∧ HT.sIx xs.length xs.length hi = xs.length) : cutD xs lo hi = xs := by
  unfold cutD
  rw [h.1, h.2]
  simp
theorem de_slice {fin : DK → List D → DSt → Prop} (fo : fin = finT ∨ fin = finN) {lo hi : Option Expr} {flo fhi : DTO} {p2 : Pos} (he : DE T X e f) (hl : DO T X lo flo) (hu : DO T X hi fhi) : DE T X (.Subscript e (.Slice lo hi none p2) pos) (dSlG fin f flo fhi) :=
  PE.imp (pe_slice sl_2 he hl hu) fun σ H Q ⟨M, r, st, Q', s, re, h, k⟩ => ⟨M, r, st, _, s, re, h, fun M1 H1 st1 x vx g1 s1 r1 q1 => ⟨M1, r, st1, _, s1, re.grow g1, q1, fun M2 H2 st2 l g2 s2 q2 => ⟨M2, r, st2, _, s2, (re.grow g1).grow g2, q2, fun M3 H3 st3 u g3 s3 q3 => by
    have rx := (r1.grow g2).grow g3
    have k3 := ((k.grow g1).grow g2).grow g3
    unfold dSlV at q3
    split at q3
    · have rx' := rx
      cases rx with
      | tup n e0 d0 rs =>
        refine .inl ⟨_, _, rfl, .inl (.inr ⟨_, e0⟩), fun wh => ?_, fun _ p ob np hd => k3.tup s3 (rs.cutV l u) np hd q3⟩
        rw [← rs.length] at wh
        rw [cut_whole wh] at q3
        exact k3.here s3 rx' q3
    · cases rx with
      | lst n e0 rs => exact .inr ⟨_, _, rfl, .inl (.inl e0), fun q nq => fin_new fo k3 s3 (rs.cutV l u) nq q3⟩
    · obtain ⟨xs, e0, q3⟩ := onO.of q3
      cases rx with
      | ref hm =>
        obtain ⟨o, e1, ro⟩ := s3.atM hm
        unfold seqS at e0
        simp only [e1] at e0
        cases o with
        | lst zs => cases e0; obtain ⟨ys, q, rs⟩ := ro; exact .inr ⟨_, ys, rfl, .inl (.inl q), fun q nq => fin_new fo k3 s3 (rs.cutV l u) nq q3⟩
        | dK _ => cases e0
        | dT _ => cases e0
        | lk _ _ _ => cases e0
        | lkT _ _ _ => cases e0
        | ins _ _ => cases e0
    · exact q3.elim⟩⟩⟩
def dSortI (fin : DK → List D → DSt → Prop) : DRs := fun ds st Q => on1 ds fun x => onO (seqS st x) fun xs => onO (intsD xs) fun ns => ns.length ≤ 100000 ∧ ∀ out : List Int, out.Perm ns → out.Pairwise (· ≤ ·) → fin Q (out.map D.int) st
def rSort2 (K : Frag) : List V → Hp → VK → Prop := fun vs H Q => rSortedI K vs H Q ∨ rSortT K vs H Q
theorem call_sort2 : CallR X (.builtin "sorted") (rSort2 X.K) := CallR.or cr_sortedI cr_sortT
theorem callD_sort {fin : DK → List D → DSt → Prop} (fo : fin = finT ∨ fin = finN) : CallD T K (rSort2 K) (dSortI fin) := by
  intro M H st ds vs Q' Q s r h k
  obtain ⟨x, rfl, h1⟩ := on1.of h
  obtain ⟨xs, e, h2⟩ := onO.of h1
  obtain ⟨ns, e2, le, h3⟩ := onO.of h2
  have e2 := intsD_of e2
  subst e2
  obtain ⟨v, rfl, rv⟩ := r.one
  obtain ⟨p, ys, rfl, sq, rs⟩ := seqS.rd s rv e
  have z := rs.ints
  subst z
  rcases sq with sq | sq
  · exact .inl ⟨p, ns, rfl, sq, fun out q p1 p2 nq => fin_new fo k s (RVs.of_ints out) nq (h3 out p1 p2)⟩
  · exact .inr ⟨p, ns, rfl, sq, fun out q p1 p2 nq => fin_new fo k s (RVs.of_ints out) nq (h3 out p1 p2)⟩
def dLRg1 (fin : DK → List D → DSt → Prop) (f : DTE) : DTE := fun r st Q => f r st fun x st1 => onI x fun j => RgOk 0 j ∧ fin Q (rgD 0 j.toNat) st1
theorem RVs.of_rg {M : Pl} {H : Hp} (lo : Int) (n : Nat) : RVs K M H (rgD lo n) ((List.range n).map fun i => V.int (lo + (i : Nat))) := by
  unfold rgD
  generalize List.range n = l
  induction l with
  | nil => exact .nil
  | cons i l ih => exact .cons (.int _) ih
theorem de_listRg1 {fin : DK → List D → DSt → Prop} (fo : fin = finT ∨ fin = finN) {p2 pos2 : Pos} (hc : X.calm = true) (hg : Gl X "list") (hm : X.mg "list" = none) (hg2 : Gl X "range") (hm2 : X.mg "range" = none) (ha : DE T X a f)
    (na : starEach [a] X.env = (false, eval a X.env) :: starEach [] X.env := by rfl) (nb : starEach [Expr.Call (.Name "range" p2) [a] [] pos2] X.env = (false, eval (Expr.Call (.Name "range" p2) [a] [] pos2) X.env) :: starEach [] X.env := by rfl) :
    DE T X (.Call (.Name "list" p) [.Call (.Name "range" p2) [a] [] pos2] [] pos) (dLRg1 fin f) :=
  PE.imp (pe_listRg hc hg hm (prg_1 hg2 hm2 ha na) nb) fun σ H Q ⟨M, r, st, Q', s, re, h, k⟩ => ⟨M, r, st, _, s, re, h, fun M1 H1 st1 x vx g1 s1 r1 q1 => by
    obtain ⟨j, rfl, ok, q2⟩ := onI.of q1
    cases r1
    refine ⟨j, rfl, ok, fun q nq => fin_new fo (k.grow g1) s1 ?_ nq q2⟩
    unfold rgV
    rw [Int.sub_zero]
    exact RVs.of_rg 0 j.toNat⟩
def tyN (st : DSt) : D → Option String
  | .non => some "NoneType" | .bl _ => some "bool" | .int _ => some "int" | .str _ => some "str" | .lst _ => some "list" | .scr _ => some "list" | .tup _ => some "tuple" | .tuk _ => some "tuple"
  | .ref n => match st[n]? with | some (.lst _) => some "list" | some (.dK _) => some "dict" | some (.dT _) => none | some (.lk _ _ _) => some "dict" | some (.lkT _ _ _) => none | some (.ins _ _) => none | none => none
theorem RV.ty {M : Pl} {H : Hp} {st : DSt} {d : D} {v : V} {t : String} (s : RS T K M st H) (r : RV K M H d v) (h : DL.tyN st d = some t) : TyX K H v (.type t) := by
  cases r with
  | non => cases h; exact .base .non
  | bl b => cases h; exact .base (.bl b)
  | int i => cases h; exact .base (.int i)
  | str x => cases h; exact .base (.str x)
  | tup n e d rs => cases h; exact .fTuple e
  | tuk n e rs => cases h; exact .base (.tup e)
  | lst n e rs => cases h; exact .base (.lst e)
  | scr n e rs =>
    cases h
    rcases e with e | ⟨o, e⟩
    · exact .base (.lst e)
    · exact .base (.frz e)
  | lsk e rs =>
    cases h
    rcases e (fun _ => none) with (z | ⟨o, z⟩) | ⟨o, its, n, h1, h2, _⟩
    · cases z
    · cases z
    · exact .kList h1 h2
  | ref hm =>
    obtain ⟨o, e1, ro⟩ := s.atM hm
    unfold DL.tyN at h
    simp only [e1] at h
    cases o with
    | lst zs => cases h; obtain ⟨ys, q, rs⟩ := ro; exact .base (.lst q)
    | dK zs => cases h; obtain ⟨ys, q, rs⟩ := ro; exact .base (.dK q)
    | dT zs => cases h
    | lk ob ys zs => cases h; obtain ⟨q, rs⟩ := ro; exact .fDict q
    | lkT ob ys zs => cases h
    | ins _ _ => cases h
def tyNames : List String := ["NoneType", "bool", "int", "str", "list", "tuple", "dict"]
theorem tyN_mem {st : DSt} {d : D} {t : String} (h : DL.tyN st d = some t) : t ∈ tyNames := by
  unfold tyNames
  cases d with
  | ref n =>
    unfold DL.tyN at h
    simp only at h
    split at h <;> cases h <;> simp
  | _ => cases h <;> simp
def subTy (t u : String) : Bool := decide (t = u) || (decide (t = "bool") && decide (u = "int"))
def dIsi (u : String) (f : DTE) : DTE := fun r st Q => f r st fun x st1 => onO (DL.tyN st1 x) fun t => Q (.bl (subTy t u)) st1
theorem de_isi {u : String} {x : Str} {p1 p2 : Pos} (hk : ∀ t ∈ tyNames, kitB t u = some (subTy t u)) (hg : Gl X "isinstance") (hm : X.mg "isinstance" = none) (hgt : Gl X x) (hmt : X.mg x = none) (hv : bootBuiltins x = some (.type u)) (ha : DE T X a f)
    (hn : x ≠ "__name__" := by decide) (hdb : (x == ("__debug__" : Str)) = false := by decide)
    (h1 : starEach [a, .Name x p2] X.env = (false, eval a X.env) :: starEach [.Name x p2] X.env := by rfl) (h2 : starEach [Expr.Name x p2] X.env = (false, eval (.Name x p2) X.env) :: starEach [] X.env := by rfl)
    (h3 : (backTo pos (starEach [Expr.Name x p2] X.env)).any (·.1) = false := by rfl) :
    DE T X (.Call (.Name "isinstance" p1) [a, .Name x p2] [] pos) (dIsi u f) :=
  PE.imp (pe_callB call_isi hg hm (by decide +kernel) (pa_cons ha (pa_cons (pe_bltn (v := .ty u) hgt hmt hv rfl hn hdb) pa_nil h2) h1) (by decide) (by decide) h1 h3) fun σ H Q ⟨M, r, st, Q', s, re, h, k⟩ => ⟨M, r, st, _, s, re, h, fun M1 H1 st1 y v g1 s1 r1 q => by
    obtain ⟨t, e, q⟩ := onO.of q
    exact ⟨v, .ty u, _, _, _, rfl, .ty u, r1.ty s1 e, kit_ty (hk t (tyN_mem e)), (k.grow g1).here s1 (.bl _) q⟩⟩
end
theorem grow_ext {T : List (Addr × Str)} {K : Frag} {M : Pl} {st : DSt} {H H' : Hp} (s : RS T K M st H) (e : ExtN H H') : Grow M H M H' :=
  ⟨⟨[], (Pl.app_nil M).symm, fun _ h => nomatch h⟩, fun a o _ h t => e a o h t, fun a ⟨o, h, t⟩ => ⟨o, e a o h t, t⟩, fun a ha => by
    obtain ⟨xs, q⟩ := s.hid a ha
    rw [q]
    exact e a _ q (fun ps z => by cases z)⟩
theorem RS.ext {T : List (Addr × Str)} {K : Frag} {M : Pl} {st : DSt} {H H' : Hp} (s : RS T K M st H) (e : ExtN H H') (t : Tabs T H') : RS T K M st H' := by
  refine ⟨s.len, s.nd, fun n a o e1 e2 => ?_, t, s.hid.keep (grow_ext s e)⟩
  have ro := s.obj n a o e1 e2
  refine ro.stay (grow_ext s e) ?_
  rcases ro.mut with ⟨xs, q⟩ | ⟨xs, q⟩ | ⟨xs, q, _⟩ | ⟨_, xs, q⟩ | ⟨_, _, xs, q⟩ <;> (rw [q]; exact e _ _ q (fun ps z => by cases z))
theorem RS.same {T : List (Addr × Str)} {K : Frag} {M : Pl} {st : DSt} {H H' : Hp} (s : RS T K M st H) (e : Same H H') : RS T K M st H' := s.ext (ExtN.of e) (s.tabs.ext e)
section
variable {T : List (Addr × Str)} {X : Cx} {a b : Expr} {fa fb : DPE} {pos p : Pos}
end
theorem RE.snoc {K : Frag} {M : Pl} {H : Hp} {r : DEnv} {σ : L2.St} {d : D} {v : V} (h : RE K M H r σ) (rv : RV K M H d v) : RE K M H (r ++ [some d]) (σ ++ [some v]) := by
  refine ⟨by simp [h.len], fun i c e => ?_⟩
  by_cases lt : i < r.length
  · rw [List.getElem?_append_left lt] at e
    rw [List.getElem?_append_left (by rw [← h.len]; exact lt)]
    exact h.at_ i c e
  · rw [List.getElem?_append_right (by omega)] at e
    rw [List.getElem?_append_right (by rw [← h.len]; omega)]
    have i0 : i - r.length = 0 := by
      have := (List.getElem?_eq_some_iff.mp e).1
      simp at this
      omega
    rw [i0] at e
    rw [← h.len, i0]
    cases e
    exact ⟨v, rfl, rv⟩
end DL
namespace DL
open PySem PySem.Spec PyProof.Rows L2 LamX PySem.W SL
section
variable {T : List (Addr × Str)} {X : Cx} {a b c e : Expr} {es : List Expr} {fa fb fc f : DTE} {fs : DTA} {pos p : Pos} {K : Frag}
def dLtG : DR2 := fun x y st Q => match x, y with
  | .int i, .int j => Q (.bl (decide (i < j))) st
  | .tup xs, .tup ys => onO (intsD xs) fun ns => onO (intsD ys) fun ms => Q (.bl (HT.lexLt ns ms)) st
  | _, _ => False
def rLtG (K : Frag) : R2 := fun x y H Q => (rI0 fun i j => .bl (decide (i < j))) x y H Q ∨ rLtT K x y H Q
theorem op_ltG (hu : X.A.units < cLine) : OpR X (compareOp .Lt) (rLtG X.K) := OpR.or op_lt (op_ltT hu)
theorem opD_ltG : OpD T K (rLtG K) dLtG := by
  intro M H st x y vx vy Q' Q s rx ry h k
  unfold dLtG at h
  split at h
  · cases rx
    cases ry
    exact .inl ⟨_, _, rfl, rfl, k.here s (.bl _) h⟩
  · rename_i xs ys
    obtain ⟨ns, e1, h1⟩ := onO.of h
    obtain ⟨ms, e2, h2⟩ := onO.of h1
    have e1 := intsD_of e1
    have e2 := intsD_of e2
    subst e1
    subst e2
    cases rx with
    | tup n1 e1 d1 r1 =>
      cases ry with
      | tup n2 e2 d2 r2 =>
        have z1 := r1.ints
        have z2 := r2.ints
        subst z1
        subst z2
        exact .inr ⟨_, _, ns, ms, rfl, rfl, .inl (.inr ⟨_, e1⟩), .inl (.inr ⟨_, e2⟩), k.here s (.bl _) h2⟩
  · exact h.elim
def perm {α : Type} (ix : List Nat) (xs : List α) : List α := ix.filterMap (xs[·]?)
theorem RVs.perm {M : Pl} {H : Hp} {ds : List D} {vs : List V} (r : RVs K M H ds vs) : ∀ ix : List Nat, RVs K M H (DL.perm ix ds) (DL.perm ix vs)
  | [] => .nil
  | i :: ix => by
    unfold DL.perm
    rw [List.filterMap_cons, List.filterMap_cons]
    cases q : ds[i]? with
    | none =>
      have z : vs[i]? = none := by
        rw [List.getElem?_eq_none_iff] at q ⊢
        rw [← r.length]
        exact q
      rw [z]
      exact RVs.perm r ix
    | some d =>
      obtain ⟨v, e, rv⟩ := r.get q
      rw [e]
      exact .cons rv (RVs.perm r ix)
theorem vals_perm {vs : List V} {us : List Value} (r : Vals vs us) : ∀ ix : List Nat, Vals (DL.perm ix vs) (DL.perm ix us)
  | [] => .nil
  | i :: ix => by
    unfold DL.perm
    rw [List.filterMap_cons, List.filterMap_cons]
    cases q : vs[i]? with
    | none =>
      rw [r.none_of q]
      exact vals_perm r ix
    | some d =>
      obtain ⟨v, e, rv⟩ := r.get q
      rw [e]
      exact .cons rv (vals_perm r ix)
abbrev DKw (T : List (Addr × Str)) (X : Cx) (kws : List Keyword) (f : DTA) : Prop := PK X kws (liftA T X.K f)
theorem PK.imp {kws : List Keyword} {t t' : TA} (h : PK X kws t) (i : ∀ σ H Q, t' σ H Q → t σ H Q) : PK X kws t' := ⟨fun pos pins s σ H Q I z => h.run pos pins s σ H Q I (i σ H Q z)⟩
theorem dk_nil : DKw T X [] daNil := PK.imp pk_nil fun σ H Q ⟨M, ρ, st, Q', s, re, hf, k⟩ => k M H st [] [] (Grow.refl M H) s .nil hf
theorem dk_cons {nm : Option Str} {kpos : Pos} {kws : List Keyword} {g : DTA} (ha : DE T X e f) (hr : DKw T X kws g) : DKw T X (⟨nm, e, kpos⟩ :: kws) (daCons f g) :=
  PK.imp (pk_cons ha hr) fun σ H Q ⟨M, ρ, st, Q', s, re, hf, k⟩ =>
    ⟨M, ρ, st, _, s, re, hf, fun M1 H1 st1 x vx g1 s1 r1 h1 => ⟨M1, ρ, st1, _, s1, re.grow g1, h1, fun M2 H2 st2 ds vs g2 s2 r2 h2 => k M2 H2 st2 _ _ (g1.trans g2) s2 (.cons (r1.grow g2) r2) h2⟩⟩
theorem de_callKw {k : Nat} {fn : Addr} {fd : FuncData} {ps ks : List Str} {g : DRs} {x : Str} {kws : List Keyword} (ix : List Nat)
    (F : FnD X.prog X.w X.K X.mg X.base T k fn fd ps g) (gd : X.A.guards = some []) (room : Room k X.A) (gl : Gl X x)
    (at_ : X.mg x = some (.ref fn)) (keep : PySem.W.keepIn X.K (.ref fn) = true) (kw : DKw T X kws fs)
    (bd : ∀ (s : Shared) (ws : List Value), ws.length = ks.length → BindsTo s fd ⟨[], ks.zip ws⟩ (ps.zip (perm ix ws)))
    (h1 : (backToKw pos (keywordEach kws X.env)).all (·.1.isSome) = true := by rfl) (h2 : (backToKw pos (keywordEach kws X.env)).filterMap (·.1) = ks := by rfl)
    (h3 : ((backTo pos (starEach [] X.env)).any (·.1) || (backToKw pos (keywordEach kws X.env)).any (·.1.isNone)) = false := by rfl) (h4 : (x == ("__debug__" : Str)) = false := by decide) :
    DE T X (.Call (.Name x p) [] kws pos) (dCB (fun ds st Q => ds.length = ks.length ∧ g (perm ix ds) st Q) fs) := by
  constructor
  intro pins s σ H Q I h
  obtain ⟨M, r, st, Q', rs, re, hf, kn⟩ := h
  refine wpAny_Call_Name_kw (ld_glob I gl at_ ?_ h4)
  refine PySem.W.callWith_KW0 (h₀ := X.base) I.ok.mod.kin keep h1 (thn (kw.run pos pins s σ H (fun vs H1 => ∃ M1 st1 ds, Grow M H M1 H1 ∧ RS T X.K M1 st1 H1 ∧ RVs X.K M1 H1 ds vs ∧ ds.length = ks.length ∧ g (perm ix ds) st1 Q') I ⟨M, r, st, _, rs, re, hf, fun M1 H1 st1 ds vs g1 s1 r1 q => ⟨M1, st1, ds, g1, s1, r1, q.1, q.2⟩⟩) ?_) h3
  rintro ws s2 ⟨zs, H2, I2, rz, M1, st1, ds, g1, s1, r1, lds, q⟩
  refine ⟨I2.kIn, ?_⟩
  rw [h2]
  have la := F.ar _ _ _ q
  have lws : ws.length = ks.length := by
    rw [← rz.length, ← r1.length]
    exact lds
  refine wpAny_call (codeAny_mono (F.fn.go X.A X.stack s2 H2 ⟨[], ks.zip ws⟩ (perm ix ws) (perm ix zs) Q E0 gd room I2.env0 (bd s2 ws lws) (vals_perm rz ix) ⟨by rw [← (r1.perm ix).length]; exact la, M1, st1, _, Q', s1, r1.perm ix, q, kn.grow g1⟩) fun r s' here => ?_)
  cases r with
  | error _ => exact False.elim here
  | ok fl => cases fl with
    | ret _ => exact I2.after here
    | next => exact False.elim here
    | brk => exact False.elim here
    | cont => exact False.elim here
end
end DL
namespace SL
open PySem PySem.Spec PyProof.Rows L2
section
open PySem.AutoSeq1 (wpAny_loadPart')
set_option maxHeartbeats 1000000 in
theorem enum_new (l : Addr) (items : Array Value) : Meets (Builtin.«enumerate.__new__» ⟨[.type "enumerate", .ref l], []⟩) (fun _ R s => s.heap.IsTuple l items ∧
      R (.ok (.ret (.ref (s.heap.push { cls := .type "tuple_iterator", data := .fields #[.ref l, .int 0 0] }).objs.size)))
        { s with heap := (s.heap.push { cls := .type "tuple_iterator", data := .fields #[.ref l, .int 0 0] }).push { cls := .type "enumerate", data := .fields #[.none, .bool false, .ref s.heap.objs.size, rawInt 0, .none, .none] } }) :=
  .of_wp fun prog w A R s hyp => by
    obtain ⟨hp, gens, dr, tk, os⟩ := s
    obtain ⟨isT, goal⟩ := hyp
    have sub := sub_enumerate
    have iter : ∀ {A' : Around} {E : Value → Shared → Prop} {Q : Value → Shared → Prop}, Q (.ref hp.objs.size) ⟨hp.push { cls := .type "tuple_iterator", data := .fields #[.ref l, .int 0 0] }, gens, dr, tk, os⟩ → wpAny (model prog w) A' (pyIter (.ref l)) Q E ⟨hp, gens, dr, tk, os⟩ :=
      fun q => wpAny_pyIter_tuple isT q
    wp_walk using iter
    refine wpAny_stack_any fun st => wpAny_pure ?_
    split
    · rename_i c _ _ _ _ _
      cases (c == Value.type "enumerate") <;> (wp_walk using iter; exact ⟨_, rfl, goal⟩)
    · wp_walk using iter
      exact ⟨_, rfl, goal⟩
end
section
variable {prog : Program} {w : World} {A : Around} {E : Value → Shared → Prop} {s : Shared}
theorem enum_call {l : Addr} {items : Array Value} {Q : Value → Shared → Prop} (isT : s.heap.IsTuple l items)
    (h : ∀ h', IsEnum h' (s.heap.objs.size + 1) s.heap.objs.size 0 .none → h'.IsTupleIter s.heap.objs.size l 0 →
      (∀ b o, s.heap.get? b = some o → h'.get? b = some o) → Q (.ref (s.heap.objs.size + 1)) { s with heap := h' }) :
    wpAny (model prog w) A (call (.type "enumerate") [.ref l]) Q E s := by
  refine callType_new F.called_enumerate (by decide) (F.typeCall_enumerate_1 _) (F.newCall_enumerate_1 _) (fun obj => F.args_object_init_2 obj _) F.entry_enumerate_new (enum_new l items) ⟨isT, ?_⟩
  have hz : (s.heap.push { cls := .type "tuple_iterator", data := .fields #[.ref l, .int 0 0] }).objs.size = s.heap.objs.size + 1 := Heap.size_push ..
  show _ ∧ _
  rw [hz]
  have he : IsEnum ((s.heap.push { cls := .type "tuple_iterator", data := .fields #[.ref l, .int 0 0] }).push
      { cls := .type "enumerate", data := .fields #[.none, .bool false, .ref s.heap.objs.size, rawInt 0, .none, .none] }) (s.heap.objs.size + 1) s.heap.objs.size 0 .none := by
    have z := Heap.get?_push_size (s.heap.push { cls := .type "tuple_iterator", data := .fields #[.ref l, .int 0 0] })
      (o := { cls := .type "enumerate", data := .fields #[.none, .bool false, .ref s.heap.objs.size, rawInt 0, .none, .none] }) rfl
    rw [hz] at z
    exact z
  exact ⟨⟨_, he, rfl⟩, h _ he ⟨_, Heap.get?_push_of_some _ (Heap.get?_push_size _ rfl), rfl, rfl⟩ fun b o x => Heap.get?_push_of_some _ (Heap.get?_push_of_some _ x)⟩
end
def IteT (K : PySem.W.Frag) (a : Addr) : It :=
  ⟨fun i H => ∃ (xs : List V) (x : V), SqT K H a xs ∧ xs[i]? = some x, fun i H v H' => ∃ T x, v = .ref T ∧ H T = none ∧ H' = upd H T (.tup [.int (i : Nat), x]) ∧ ∀ xs, SqT K H a xs → xs[i]? = some x,
    fun i H => ∃ xs : List V, SqT K H a xs ∧ xs.length = i⟩
theorem turn_enumT {P : Program} {w : World} {K : PySem.W.Frag} {elts : List Expr} {kk : Nat} {tpos : Pos} (a e it : Addr) :
    Turn P w K (.Tuple elts kk tpos) (IteT K a) [e, it] e (fun i h => (∃ old, IsEnum h e it ((i : Nat) : Int) old) ∧ h.IsTupleIter it a i ∧ e ≠ it ∧ a ≠ it ∧ a ≠ e) where
  mem := by simp
  obj := by
    rintro i h ⟨⟨old, he⟩, ⟨o, ho, hc, hd⟩, _⟩ b hb
    have cs : b = e ∨ b = it := by simpa using hb
    rcases cs with z | z
    · rw [z]
      exact ⟨_, he, fun v q => nomatch q⟩
    · rw [z]
      exact ⟨o, ho, fun v q => by rw [hd] at q; cases q⟩
  keep := by
    rintro i h h' ⟨⟨old, he⟩, hi, r⟩ k
    exact ⟨⟨old, k e (by simp) _ he⟩, hi.at fun o q => k it (by simp) o q, r⟩
  item := by
    rintro X rfl rfl rfl calm i pins s σ H E I hf ⟨⟨old, he⟩, hit, hne, ai, ae⟩ ⟨xs, x, hq, hx⟩
    obtain ⟨its, rv, ht, hz⟩ := I.tuple hq
    obtain ⟨u, hu, ru⟩ := rv.get hx
    have hel : e < s.heap.objs.size := Heap.lt_size he
    have hil : it < s.heap.objs.size := by
      obtain ⟨_, q, _⟩ := hit
      exact Heap.lt_size q
    have li : i < its.toArray.size := by
      rw [List.size_toArray]
      exact (List.getElem?_eq_some_iff.mp hu).1
    have dr := Draws.tuple (prog := X.prog) (w := X.w) (A := X.A.in1) (show X.A.in1.handled = none from I.ok.hd calm) it a ai its.toArray
    refine wpAny_pyNext_enum_itemD dr he ⟨hit, ht⟩ li hne (by simp [hne, Ne.symm ae]) fun y h' tk hy ho st' hT hsz hk => ?_
    have ey : y = u := by
      have z : its[i]? = some y := by simpa using hy
      rw [hu] at z
      exact (Option.some.inj z).symm
    subst ey
    refine ⟨_, rfl, wpAny_letOwnedTupleGo_enum (s := { s with heap := h', toks := tk + 1 }) ho fun h'' he' sb => ?_⟩
    have hT2 : h''.get? s.heap.objs.size = some { cls := .type "tuple", data := .seq #[.int i tk, y] } := (sb.2 _ (Nat.ne_of_gt hel)).trans hT
    have fresh : ObjOk X.prog X.w (upd H s.heap.objs.size (.tup [.int (i : Nat), x])) h'' s.heap.objs.size (.tup [.int (i : Nat), x]) :=
      ⟨by show 2 ≤ sizeLine; decide, [.int i tk, y], .cons ⟨_, rfl⟩ (.cons ru .nil), ⟨_, hT2, rfl, _, rfl⟩⟩
    have I1 : Inv X pins σ (upd H s.heap.objs.size (.tup [.int (i : Nat), x])) { s with heap := h'', toks := tk + 1 } :=
      I.turnedNew (ch := [e, it]) (fun b ob hb q => (sb.2 b (fun z => hb (by simp [z]))).trans (hk b ob (fun z => hb (by simp [z])) (fun z => hb (by simp [z])) q)) hf (Nat.le_refl _) fresh
    refine ⟨.ref s.heap.objs.size, _, I1, rfl, ⟨_, x, rfl, I.hok.fresh (Nat.le_refl _), rfl, fun ys hy => by rw [I.tuple_inj hy hq]; exact hx⟩, ⟨⟨y, ?_⟩, st'.1.at fun o q => (sb.2 it (Ne.symm hne)).trans q, hne, ai, ae⟩, fun b hb => ?_⟩
    · rw [show ((i + 1 : Nat) : Int) = (i : Int) + 1 by omega]
      exact he'
    · have hb' : b < s.heap.objs.size := by
        have cs : b = e ∨ b = it := by simpa using hb
        rcases cs with z | z
        · rw [z]
          exact hel
        · rw [z]
          exact hil
      rw [upd_ne (Nat.ne_of_lt hb')]
      exact (hf b hb).1
  done := by
    rintro X rfl rfl rfl calm i pins s σ H E I hf ⟨⟨old, he⟩, hit, hne, ai, ae⟩ ⟨xs, hq, hx⟩
    obtain ⟨its, rv, ht, hz⟩ := I.tuple hq
    obtain ⟨f0, f1, f2, f3, f4, f5⟩ := hf it (by simp)
    have si : its.toArray.size = i := by rw [List.size_toArray, ← rv.length]; exact hx
    have dr := Draws.tuple (prog := X.prog) (w := X.w) (A := X.A.in1) (show X.A.in1.handled = none from I.ok.hd calm) it a ai its.toArray
    exact wpAny_pyNext_enum_endD dr he ⟨by rw [si]; exact hit, ht⟩ fun h' eb => ⟨rfl, I.turned (t' := s.toks) (fun b o hb q => eb b o hb q) f0 f1 f3 f4 f5⟩
  self := fun A i s Q E st h => let ⟨⟨_, he⟩, _⟩ := st; wpAny_pyIter_enum he h
def iEnum2 (K : PySem.W.Frag) (ta : TA) : TI := fun σ H R => ta σ H fun vs H1 => ∃ a, vs = [.ref a] ∧ (((∃ xs, SqL K H1 a xs) ∧ R (Ite K a) H1) ∨ ((∃ xs, SqT K H1 a xs) ∧ R (IteT K a) H1))
theorem pi_enum2 {X : Cx} {e : Expr} {ta : TA} {p pos tpos : Pos} {elts : List Expr} {kk : Nat} (g1 : Gl X "enumerate") (m1 : X.mg "enumerate" = none) (ha : PA X [e] ta) (one : starEach [e] X.env = [(false, eval e X.env)] := by rfl) :
    PI X (.Tuple elts kk tpos) (.Call (.Name "enumerate" p) [e] [] pos) (iEnum2 X.K ta) := by
  constructor
  intro pins s σ H R I h
  refine Call_ (ld_blt I g1 m1 boot_enumerate (callWith_type1 (thn (ha.run pos pins s σ H _ I h) ?_) one rfl))
  rintro us s1 ⟨vs, H1, I1, r1, a, rfl, (⟨⟨xs, hq⟩, q⟩ | ⟨⟨xs, hq⟩, q⟩)⟩
  · cases r1 with
    | cons r rr =>
      cases rr
      cases r
      obtain ⟨its, rv, p', hz⟩ := I1.list hq
      refine call_enumerate_list p'.isList fun h' he hit hsz hk => wpAny_pyIter_enum he ?_
      have I2 : Inv X pins σ H1 { s1 with heap := h' } := I1.kept (t' := s1.toks) hk
      refine ⟨s1.heap.objs.size + 1, [s1.heap.objs.size + 1, s1.heap.objs.size], _, _, H1, rfl, I2, turn_enum a (s1.heap.objs.size + 1) s1.heap.objs.size, ⟨⟨.none, he⟩, hit, Nat.succ_ne_self _⟩, fun b hb => ?_, q⟩
      have cs : b = s1.heap.objs.size + 1 ∨ b = s1.heap.objs.size := by simpa using hb
      have hle : s1.heap.objs.size ≤ b := by
        rcases cs with z | z
        · rw [z]
          exact Nat.le_succ _
        · rw [z]
          exact Nat.le_refl _
      exact I1.fpOk hle (I1.hok.fresh hle)
  · cases r1 with
    | cons r rr =>
      cases rr
      cases r
      obtain ⟨its, rv, ht, hz⟩ := I1.tuple hq
      have ht' : s1.heap.IsTuple a its.toArray := ht
      have al : a < s1.heap.objs.size := by obtain ⟨_, e, _⟩ := ht'; exact Heap.lt_size e
      refine enum_call ht' fun h' he hit kept => wpAny_pyIter_enum he ?_
      have I2 : Inv X pins σ H1 { s1 with heap := h' } := I1.kept (t' := s1.toks) kept
      refine ⟨s1.heap.objs.size + 1, [s1.heap.objs.size + 1, s1.heap.objs.size], _, _, H1, rfl, I2, turn_enumT a (s1.heap.objs.size + 1) s1.heap.objs.size, ⟨⟨.none, he⟩, hit, Nat.succ_ne_self _, Nat.ne_of_lt al, Nat.ne_of_lt (Nat.lt_succ_of_lt al)⟩, fun b hb => ?_, q⟩
      have cs : b = s1.heap.objs.size + 1 ∨ b = s1.heap.objs.size := by simpa using hb
      have hle : s1.heap.objs.size ≤ b := by
        rcases cs with z | z
        · rw [z]
          exact Nat.le_succ _
        · rw [z]
          exact Nat.le_refl _
      exact I1.fpOk hle (I1.hok.fresh hle)
end SL
namespace DL
open PySem PySem.Spec PyProof.Rows L2 LamX PySem.W SL RZ
def enumD (xs : List D) : List D := xs.zipIdx.map fun p => D.tuk [.int (p.2 : Nat), p.1]
theorem enumD_get {xs : List D} {i : Nat} {d : D} (h : (enumD xs)[i]? = some d) : ∃ x, xs[i]? = some x ∧ d = .tuk [.int (i : Nat), x] := by
  unfold enumD at h
  rw [List.getElem?_map, List.getElem?_zipIdx] at h
  cases q : xs[i]? with
  | none => rw [q] at h; cases h
  | some x => rw [q] at h; cases h; exact ⟨x, rfl, by rw [Nat.zero_add]⟩
theorem enumD_length (xs : List D) : (enumD xs).length = xs.length := by unfold enumD; rw [List.length_map, List.length_zipIdx]
theorem okS_src {I J : DIt} {st : DSt} (e : I.src = J.src) (h : okS I st) : okS J st := by
  unfold okS at h ⊢
  rw [← e]
  exact h
section
variable {T : List (Addr × Str)} {K : Frag} {M : Pl} {H : Hp} {st : DSt} {I : DIt} {a : Addr}
theorem IsL.enum (h : IsL T K M H I a) : ItOk T K M H (Ite K a) ⟨enumD I.items, I.src⟩ := by
  refine ⟨fun M' H' st' l s ok i d e => ?_, fun M' H' st' l s ok => ?_⟩
  · obtain ⟨xs, r, q⟩ := h M' H' st' l s (okS_src rfl ok)
    obtain ⟨x, e1, rfl⟩ := enumD_get e
    obtain ⟨v, e2, rv⟩ := r.get e1
    refine ⟨⟨xs, v, q, e2⟩, fun y H'' z => ?_⟩
    obtain ⟨p, w, rfl, np, rfl, z⟩ := z
    have zz := z xs q
    rw [e2] at zz
    cases zz
    have g : Grow M' H' M' (upd H' p (.tup [.int (i : Nat), v])) := Grow.new s.hid np
    exact ⟨g, s.new np, .tuk (s.notin np) upd_same (.cons (.int _) (.cons (rv.grow g) .nil))⟩
  · obtain ⟨xs, r, q⟩ := h M' H' st' l s (okS_src rfl ok)
    exact ⟨xs, q, by rw [enumD_length, r.length]; exact Nat.le_refl _⟩
theorem IsT.enum (h : IsT T K M H I a) : ItOk T K M H (IteT K a) ⟨enumD I.items, I.src⟩ := by
  refine ⟨fun M' H' st' l s ok i d e => ?_, fun M' H' st' l s ok => ?_⟩
  · obtain ⟨xs, r, q⟩ := h M' H' st' l s (okS_src rfl ok)
    obtain ⟨x, e1, rfl⟩ := enumD_get e
    obtain ⟨v, e2, rv⟩ := r.get e1
    refine ⟨⟨xs, v, q, e2⟩, fun y H'' z => ?_⟩
    obtain ⟨p, w, rfl, np, rfl, z⟩ := z
    have zz := z xs q
    rw [e2] at zz
    cases zz
    have g : Grow M' H' M' (upd H' p (.tup [.int (i : Nat), v])) := Grow.new s.hid np
    exact ⟨g, s.new np, .tuk (s.notin np) upd_same (.cons (.int _) (.cons (rv.grow g) .nil))⟩
  · obtain ⟨xs, r, q⟩ := h M' H' st' l s (okS_src rfl ok)
    exact ⟨xs, q, by rw [enumD_length, r.length]⟩
end
def itL (st : DSt) : D → Option DIt
  | .lst ds => some ⟨ds, none⟩
  | .scr ds => some ⟨ds, none⟩
  | .ref n => match st[n]? with | some (.lst ds) => some ⟨ds, some (n, .lst ds)⟩ | _ => none
  | _ => none
def itT : D → Option DIt
  | .tup ds => some ⟨ds, none⟩
  | .tuk ds => some ⟨ds, none⟩
  | _ => none
section
variable {T : List (Addr × Str)} {K : Frag} {M : Pl} {H : Hp} {st : DSt}
theorem itL.is {d : D} {v : V} {I : DIt} (s : RS T K M st H) (r : RV K M H d v) (e : itL st d = some I) : ∃ a, v = .ref a ∧ IsL T K M H I a ∧ okS I st := by
  cases r with
  | lst n h rs => cases e; exact ⟨_, rfl, fun M' H' st' l s ok => ⟨_, rs.later l, .inl (Rd.later l n (.inl h))⟩, .inl rfl⟩
  | scr n h rs => cases e; exact ⟨_, rfl, fun M' H' st' l s ok => ⟨_, rs.later l, .inl (Rd.later l n h)⟩, .inl rfl⟩
  | lsk h rs => cases e; exact ⟨_, rfl, fun M' H' st' l s ok => ⟨_, rs.later l, h H'⟩, .inl rfl⟩
  | ref h =>
    obtain ⟨o, e1, ro⟩ := s.atM h
    unfold itL at e
    simp only [e1] at e
    cases o with
    | lst xs =>
      cases e
      refine ⟨_, rfl, fun M' H' st' l s ok => ?_, .inr ⟨_, _, rfl, e1⟩⟩
      rcases ok with z | ⟨n', ys, z, q⟩
      · cases z
      · cases z
        obtain ⟨xs, e1, e2⟩ := s.obj _ _ _ (l.get _ _ h) q
        exact ⟨xs, e2, .inl (.inl e1)⟩
    | dK _ => cases e
    | dT _ => cases e
    | lk _ _ _ => cases e
    | lkT _ _ _ => cases e
    | ins _ _ => cases e
  | _ => cases e
theorem itT.is {d : D} {v : V} {I : DIt} (r : RV K M H d v) (e : itT d = some I) : ∃ a, v = .ref a ∧ IsT T K M H I a ∧ I.src = none := by
  cases r with
  | tup n h q rs => cases e; exact ⟨_, rfl, fun M' H' st' l s ok => ⟨_, rs.later l, .inl (.inr ⟨_, l.keep _ _ n h (fun ps z => by cases z)⟩)⟩, rfl⟩
  | tuk n h rs => cases e; exact ⟨_, rfl, fun M' H' st' l s ok => ⟨_, rs.later l, .inl (.inl (l.keep _ _ n h (fun ps z => by cases z)))⟩, rfl⟩
  | _ => cases e
end
def wEnum (fs : DTA) : DTI := fun r st R => fs r st fun ds st1 => on1 ds fun x => onO (itOf st1 x) fun I => R ⟨enumD I.items, I.src⟩ st1
def zipD (xs ys : List D) : List D := (xs.zip ys).map fun p => D.tuk [p.1, p.2]
def wZip (fs : DTA) : DTI := fun r st R => fs r st fun ds st1 => on2 ds fun x y => onO (itT x) fun I => onO (itT y) fun J => R ⟨zipD I.items J.items, none⟩ st1
section
variable {T : List (Addr × Str)} {X : Cx} {e e2 : Expr} {fs : DTA} {p pos tpos : Pos} {elts : List Expr} {kk : Nat}
theorem di_enum (hg : Gl X "enumerate") (hm : X.mg "enumerate" = none) (ha : DA T X [e] fs) (hs : starEach [e] X.env = [(false, eval e X.env)] := by rfl) : DI T X (.Tuple elts kk tpos) (.Call (.Name "enumerate" p) [e] [] pos) (wEnum fs) :=
  PI.imp (pi_enum2 hg hm ha hs) fun σ H R ⟨M, r, st, R', s, re, h, k⟩ => ⟨M, r, st, _, s, re, h, fun M1 H1 st1 ds vs g1 s1 r1 q => by
    obtain ⟨x, rfl, q1⟩ := on1.of q
    obtain ⟨I, e, q2⟩ := onO.of q1
    obtain ⟨v, rfl, rv⟩ := r1.one
    obtain ⟨a, rfl, src, ok⟩ := itOf.src s1 rv e
    rcases src.lt (T := T) with l | l
    · obtain ⟨xs, _, sq⟩ := l M1 H1 st1 (Later.refl _ _) s1 ok
      exact ⟨a, rfl, .inl ⟨⟨xs, sq⟩, k M1 H1 st1 _ _ g1 s1 q2 l.enum⟩⟩
    · obtain ⟨xs, _, sq⟩ := l M1 H1 st1 (Later.refl _ _) s1 ok
      exact ⟨a, rfl, .inr ⟨⟨xs, sq⟩, k M1 H1 st1 _ _ g1 s1 q2 l.enum⟩⟩⟩
theorem zipD_get {xs ys : List D} {i : Nat} {d : D} (h : (zipD xs ys)[i]? = some d) : ∃ x y, xs[i]? = some x ∧ ys[i]? = some y ∧ d = .tuk [x, y] := by
  unfold zipD at h
  rw [List.getElem?_map, Option.map_eq_some_iff] at h
  obtain ⟨⟨x, y⟩, e, rfl⟩ := h
  have z := List.getElem?_zip_eq_some.mp e
  exact ⟨x, y, z.1, z.2, rfl⟩
theorem zipD_length (xs ys : List D) : (zipD xs ys).length = min xs.length ys.length := by unfold zipD; rw [List.length_map, List.length_zip]
theorem itok_zip {K : Frag} {M : Pl} {H : Hp} {I J : DIt} {a b : Addr} (h1 : IsT T K M H I a) (h2 : IsT T K M H J b) (e1 : I.src = none) (e2 : J.src = none) : ItOk T K M H (ItzT K a b) ⟨zipD I.items J.items, none⟩ := by
  refine ⟨fun M' H' st' l s ok i d e => ?_, fun M' H' st' l s ok => ?_⟩
  · obtain ⟨xs, r1, q1⟩ := h1 M' H' st' l s (.inl e1)
    obtain ⟨ys, r2, q2⟩ := h2 M' H' st' l s (.inl e2)
    obtain ⟨x, y, e3, e4, rfl⟩ := zipD_get e
    obtain ⟨v, e5, rv⟩ := r1.get e3
    obtain ⟨w, e6, rw'⟩ := r2.get e4
    refine ⟨⟨xs, ys, v, w, q1, q2, e5, e6⟩, fun u H'' z => ?_⟩
    obtain ⟨p, v', w', rfl, np, rfl, z1, z2⟩ := z
    have zz := z1 xs q1
    rw [e5] at zz
    cases zz
    have zz := z2 ys q2
    rw [e6] at zz
    cases zz
    have g : Grow M' H' M' (upd H' p (.tup [v, w])) := Grow.new s.hid np
    exact ⟨g, s.new np, .tuk (s.notin np) upd_same (.cons (rv.grow g) (.cons (rw'.grow g) .nil))⟩
  · obtain ⟨xs, r1, q1⟩ := h1 M' H' st' l s (.inl e1)
    obtain ⟨ys, r2, q2⟩ := h2 M' H' st' l s (.inl e2)
    refine ⟨xs, ys, q1, q2, ?_⟩
    show xs.length ≤ (zipD I.items J.items).length ∨ ys.length ≤ (zipD I.items J.items).length
    rw [zipD_length, ← r1.length, ← r2.length]
    omega
theorem di_zip (hg : Gl X "zip") (hm : X.mg "zip" = none) (ha : DA T X [e, e2] fs) (hs : starEach [e, e2] X.env = (false, eval e X.env) :: starEach [e2] X.env := by rfl) (hpl : (backTo pos (starEach [e2] X.env)).any (·.1) = false := by rfl) :
    DI T X (.Tuple elts kk tpos) (.Call (.Name "zip" p) [e, e2] [] pos) (wZip fs) :=
  PI.imp (pi_zipA hg hm ha hs hpl) fun σ H R ⟨M, r, st, R', s, re, h, k⟩ => ⟨M, r, st, _, s, re, h, fun M1 H1 st1 ds vs g1 s1 r1 q => by
    obtain ⟨x, y, rfl, q1⟩ := on2.of q
    obtain ⟨I, e, q2⟩ := onO.of q1
    obtain ⟨J, e', q3⟩ := onO.of q2
    obtain ⟨v, w, rfl, rv, rw'⟩ := r1.two
    obtain ⟨a, rfl, l, n1⟩ := itT.is (T := T) rv e
    obtain ⟨b, rfl, l', n2⟩ := itT.is (T := T) rw' e'
    obtain ⟨xs, _, sq⟩ := l M1 H1 st1 (Later.refl _ _) s1 (.inl n1)
    obtain ⟨ys, _, sq'⟩ := l' M1 H1 st1 (Later.refl _ _) s1 (.inl n2)
    exact ⟨a, b, xs, ys, rfl, .inr ⟨sq, sq', k M1 H1 st1 _ _ g1 s1 q3 (itok_zip l l' n1 n2)⟩⟩⟩
end
end DL
namespace DL
open PySem PySem.Spec PyProof.Rows L2 LamX PySem.W SL
def compI (I : DIt) (g : DTG) (tt : DTT) (te : DTE) (r : DEnv) (Nx : List D → DSt → Prop) : List D → List D → DSt → Prop
  | [], acc, st => okI I st (Nx acc st)
  | d :: ds, acc, st => okI I st (g d r st fun r2 st2 => tt r2 st2 fun b st3 => if b = true then te r2 st3 fun y st4 => acc.length < sizeLine ∧ compI I g tt te r Nx ds (acc ++ [y]) st4 else compI I g tt te r Nx ds acc st3)
def comp2 (I : DIt) (g : DTG) (tt : DTT) (f1 : DTI) (g1 : DTG) (tt1 : DTT) (te : DTE) (r : DEnv) (vs1 : List Nat) (Q : List D → DSt → Prop) : List D → List D → DSt → Prop
  | [], acc, st => okI I st (Q acc st)
  | d :: ds, acc, st => okI I st (g d r st fun r2 st2 => tt r2 st2 fun b st3 => if b = true then f1 r2 st3 fun I1 st4 => compI I1 g1 tt1 te (wipeD r2 vs1) (comp2 I g tt f1 g1 tt1 te r vs1 Q ds) I1.items acc st4 else comp2 I g tt f1 g1 tt1 te r vs1 Q ds acc st3)
def dLc2G (f : DTI) (g : DTG) (tt : DTT) (f1 : DTI) (g1 : DTG) (tt1 : DTT) (te : DTE) (vs vs1 : List Nat) (fin : (D → DSt → Prop) → List D → DSt → Prop) : DTE := fun r st Q => f r st fun I st1 => comp2 I g tt f1 g1 tt1 te (wipeD r vs) vs1 (fin Q) I.items [] st1
def Mk (T : List (Addr × Str)) (K : Frag) (M1 : Pl) (H1 : Hp) (p : Addr) (N : Pl) (acc : List D) (st : DSt) (H : Hp) : Prop := Grow M1 H1 N H ∧ RS T K (N.hide p) st H ∧ ∃ xs, H p = some (.lst xs) ∧ RVs K (N.hide p) H acc xs
theorem Mk.go {T : List (Addr × Str)} {K : Frag} {M1 N : Pl} {H1 H H2 : Hp} {st1 st st2 : DSt} {p : Addr} {acc : List D} {M2 : Pl} (m : Mk T K M1 H1 p N acc st H) (s1 : RS T K M1 st1 H1) (np : H1 p = none) (g : Grow (N.hide p) H M2 H2) (s2 : RS T K M2 st2 H2) :
    ∃ N2, M2 = N2.hide p ∧ Mk T K M1 H1 p N2 acc st2 H2 ∧ Later (N.hide p) H (N2.hide p) H2 := by
  obtain ⟨gr, s, xs, hp, rs⟩ := m
  obtain ⟨N2, rfl⟩ := grow_hide g
  have hp2 : H2 p = some (.lst xs) := (g.hid p hidden_at).trans hp
  refine ⟨N2, rfl, ⟨?_, s2, xs, hp2, rs.grow g⟩, g.later⟩
  have z := gr.step (o := .lst xs) s1 np g
  rw [upd_self hp2] at z
  exact z
theorem Mk.push {T : List (Addr × Str)} {K : Frag} {M1 N : Pl} {H1 H : Hp} {st1 st : DSt} {p : Addr} {acc : List D} {y : D} {v : V} (m : Mk T K M1 H1 p N acc st H) (s1 : RS T K M1 st1 H1) (np : H1 p = none) (rv : RV K (N.hide p) H y v) :
    ∃ xs, H p = some (.lst xs) ∧ xs.length = acc.length ∧ Mk T K M1 H1 p N (acc ++ [y]) st (upd H p (.lst (xs ++ [v]))) ∧ Later (N.hide p) H (N.hide p) (upd H p (.lst (xs ++ [v]))) := by
  obtain ⟨gr, s, xs, hp, rs⟩ := m
  obtain ⟨s2, l⟩ := s.push (ys := xs ++ [v]) hp
  exact ⟨xs, hp, rs.length.symm, ⟨gr.step s1 np (Grow.refl _ _), s2, xs ++ [v], upd_same, (rs.later l).append (.cons (rv.later l) .nil)⟩, l⟩
theorem drop_cons {α : Type} {l ds : List α} {d : α} {i : Nat} (e : l.drop i = d :: ds) : l[i]? = some d ∧ i < l.length ∧ l.drop (i + 1) = ds := by
  have z : (l.drop i)[0]? = some d := by rw [e]; rfl
  rw [List.getElem?_drop, Nat.add_zero] at z
  refine ⟨z, (List.getElem?_eq_some_iff.mp z).1, ?_⟩
  have z : (l.drop i).drop 1 = ds := by rw [e]; rfl
  rw [List.drop_drop] at z
  exact z
theorem lift_lc2 {T : List (Addr × Str)} {K : Frag} {f f1 : DTI} {g g1 : DTG} {tt tt1 : DTT} {te : DTE} {vs vs1 : List Nat} {fin : (D → DSt → Prop) → List D → DSt → Prop} (fo : FinOk T K fin) {σ : L2.St} {H : Hp} {Q : VK} (h : lift T K (dLc2G f g tt f1 g1 tt1 te vs vs1 fin) σ H Q) :
    tLc2 (liftI T K f) (liftG T K vs g) (liftT T K tt) (liftI T K f1) (liftG T K vs1 g1) (liftT T K tt1) (lift T K te) vs vs1 σ H Q := by
  obtain ⟨M, r, st, Q', s, re, h, k⟩ := h
  refine ⟨M, r, st, _, s, re, h, fun M1 H1 st1 J I gr1 s1 q it p np => ?_⟩
  refine ⟨fun i m H' => ∃ (N : Pl) (acc : List D) (st' : DSt), Mk T K M1 H1 p N acc st' H' ∧ i ≤ I.items.length ∧ m = I.items.length - i ∧ comp2 I g tt f1 g1 tt1 te (wipeD r vs) vs1 (fin Q') (I.items.drop i) acc st', ⟨I.items.length, M1, [], st1, ⟨Grow.new s1.hid np, s1.hide np, [], upd_same, .nil⟩, Nat.zero_le _, rfl, q⟩, fun i m H' w => ?_⟩
  obtain ⟨N, acc, st', mk, le, rfl, cl⟩ := w
  have lat := mk.1.lateHide np
  have reN : RE K (N.hide p) H' (wipeD r vs) (L2.wipe σ vs) := ((re.grow gr1).wipe vs).later lat
  cases e : I.items.drop i with
  | nil =>
    rw [e] at cl
    obtain ⟨ok, q⟩ := okI.of cl
    have ei : i = I.items.length := by
      have := List.drop_eq_nil_iff.mp e
      omega
    obtain ⟨gr, s', xs, hp, rs⟩ := mk
    exact .inl ⟨by rw [ei]; exact it.stop _ H' st' lat s' ok, fo M1 N H1 H' st' p acc xs Q' Q np gr s' hp rs (k.grow gr1) q⟩
  | cons d ds =>
    rw [e] at cl
    obtain ⟨ok, q⟩ := okI.of cl
    obtain ⟨at_, lt, ds_⟩ := drop_cons e
    obtain ⟨go, yl⟩ := it.go _ H' st' lat mk.2.1 ok i d at_
    refine .inr ⟨go, fun H2 => ∃ (N2 : Pl) (acc2 : List D) (st2 : DSt), Mk T K M1 H1 p N2 acc2 st2 H2 ∧ comp2 I g tt f1 g1 tt1 te (wipeD r vs) vs1 (fin Q') ds acc2 st2,
      fun H2 ⟨N2, acc2, st2, a1, a2⟩ => ⟨I.items.length - (i + 1), by omega, N2, acc2, st2, a1, lt, rfl, by rw [ds_]; exact a2⟩, fun x H2 y => ?_⟩
    obtain ⟨g2, s2, r2⟩ := yl x H2 y
    refine ⟨_, wipeD r vs, st', d, _, s2, reN.grow g2, r2, q, fun M3 H3 σ3 r3 st3 g3 s3 re3 w3 q3 => ⟨w3.trans (wipe_wipe σ vs), M3, r3, st3, _, s3, re3, q3, fun M4 H4 st4 b g4 s4 q4 => ?_⟩⟩
    have g24 := (g2.trans g3).trans g4
    have re4 := re3.grow g4
    cases b with
    | false =>
      rw [if_neg (by decide)] at q4
      refine iteF ?_
      obtain ⟨N4, rfl, mk4, _⟩ := mk.go s1 np g24 s4
      exact ⟨N4, acc, st4, mk4, q4⟩
    | true =>
      rw [if_pos rfl] at q4
      refine iteT ?_
      refine ⟨M4, r3, st4, _, s4, re4, q4, fun M5 H5 st5 J1 I1 g5 s5 q5 it1 => ?_⟩
      obtain ⟨N5, rfl, mk5, _⟩ := mk.go s1 np (g24.trans g5) s5
      have re5 := (re4.grow g5).wipe vs1
      refine ⟨fun j kk G => ∃ (N6 : Pl) (acc6 : List D) (st6 : DSt), Mk T K M1 H1 p N6 acc6 st6 G ∧ Later (N5.hide p) H5 (N6.hide p) G ∧ (∀ a, NT H5 a → NT G a) ∧ j ≤ I1.items.length ∧ kk = I1.items.length - j ∧ compI I1 g1 tt1 te (wipeD r3 vs1) (comp2 I g tt f1 g1 tt1 te (wipeD r vs) vs1 (fin Q') ds) (I1.items.drop j) acc6 st6,
        ⟨I1.items.length, N5, acc, st5, mk5, Later.refl _ _, fun _ h => h, Nat.zero_le _, rfl, q5⟩, fun j kk G w => ?_⟩
      obtain ⟨N6, acc6, st6, mk6, l6, nt6, le6, rfl, cl6⟩ := w
      have re6 : RE K (N6.hide p) G (wipeD r3 vs1) (L2.wipe σ3 vs1) := re5.later l6
      cases e6 : I1.items.drop j with
      | nil =>
        rw [e6] at cl6
        obtain ⟨ok6, q6⟩ := okI.of cl6
        have ej : j = I1.items.length := by
          have := List.drop_eq_nil_iff.mp e6
          omega
        exact .inl ⟨by rw [ej]; exact it1.stop _ G st6 l6 mk6.2.1 ok6, N6, acc6, st6, mk6, q6⟩
      | cons d1 ds1 =>
        rw [e6] at cl6
        obtain ⟨ok6, q6⟩ := okI.of cl6
        obtain ⟨at6, lt6, ds6⟩ := drop_cons e6
        obtain ⟨go6, yl6⟩ := it1.go _ G st6 l6 mk6.2.1 ok6 j d1 at6
        refine .inr ⟨go6, fun G2 => ∃ (N7 : Pl) (acc7 : List D) (st7 : DSt), Mk T K M1 H1 p N7 acc7 st7 G2 ∧ Later (N5.hide p) H5 (N7.hide p) G2 ∧ (∀ a, NT H5 a → NT G2 a) ∧ compI I1 g1 tt1 te (wipeD r3 vs1) (comp2 I g tt f1 g1 tt1 te (wipeD r vs) vs1 (fin Q') ds) ds1 acc7 st7,
          fun G2 ⟨N7, acc7, st7, a1, a2, a3, a4⟩ => ⟨I1.items.length - (j + 1), by omega, N7, acc7, st7, a1, a2, a3, lt6, rfl, by rw [ds6]; exact a4⟩, fun x1 G2 y1 => ?_⟩
        obtain ⟨g7, s7, r7⟩ := yl6 x1 G2 y1
        refine ⟨_, wipeD r3 vs1, st6, d1, _, s7, re6.grow g7, r7, q6, fun M8 H8 σ8 r8 st8 g8 s8 re8 w8 q8 => ⟨w8.trans (wipe_wipe σ3 vs1), M8, r8, st8, _, s8, re8, q8, fun M9 H9 st9 b9 g9 s9 q9 => ?_⟩⟩
        have g79 := (g7.trans g8).trans g9
        cases b9 with
        | false =>
          rw [if_neg (by decide)] at q9
          refine iteF ?_
          obtain ⟨N9, rfl, mk9, l9⟩ := mk6.go s1 np g79 s9
          exact ⟨N9, acc6, st9, mk9, l6.trans l9 nt6, fun a h => g79.there a (nt6 a h), q9⟩
        | true =>
          rw [if_pos rfl] at q9
          refine iteT ?_
          refine ⟨M9, r8, st9, _, s9, re8.grow g9, q9, fun Ma Ha sta z vz ga sa ra qa => ?_⟩
          have g7a := g79.trans ga
          obtain ⟨Na, rfl, mka, la⟩ := mk6.go s1 np g7a sa
          obtain ⟨xs, hp, lx, mkb, lb⟩ := mka.push s1 np ra
          have nta : ∀ a, NT H5 a → NT Ha a := fun a h => g7a.there a (nt6 a h)
          refine ⟨xs, hp, by rw [lx]; exact qa.1, Na, acc6 ++ [z], sta, mkb, (l6.trans la nt6).trans lb nta, fun a h => ?_, qa.2⟩
          by_cases zz : a = p
          · rw [zz]; exact ⟨_, upd_same, fun ps w => by cases w⟩
          · exact (nta a h).upd zz
section
variable {T : List (Addr × Str)} {X : Cx} {elt tg iter tg1 iter1 : Expr} {ifs ifs1 : List Expr} {scope : Scope} {own : List (Str × Nat)} {vs1 : List Nat} {pos : Pos} {f f1 : DTI} {g g1 : DTG} {tt tt1 : DTT} {te : DTE}
theorem de_lc2G {fin : (D → DSt → Prop) → List D → DSt → Prop} (fo : FinOk T X.K fin) (hc : X.calm = true) (hN : X.N.Nodup) (hi : DI T X tg iter f) (ok : BlkOk X.N X.env.scope scope own) (hv : ∀ i ∈ vs1, i ∈ own.map (·.2))
    (hg : ∀ (s : Shared) (H : Hp) (C : Addr) (cl : List (Str × Addr)) (fp : List Addr), DG T (X.blk s H scope (compEnvC scope cl C X.env) fp) (own.map (·.2)) tg g) (ht : ∀ (s : Shared) (H : Hp) (C : Addr) (cl : List (Str × Addr)) (fp : List Addr), DTs T (X.blk s H scope (compEnvC scope cl C X.env) fp) ifs tt)
    (hi1 : ∀ (s : Shared) (H : Hp) (C : Addr) (cl : List (Str × Addr)) (fp : List Addr), DI T (X.blk s H scope (compEnvC scope cl C X.env) fp) tg1 iter1 f1)
    (hg1 : ∀ (s : Shared) (H : Hp) (C : Addr) (cl : List (Str × Addr)) (fp : List Addr), DG T (X.blk s H scope (compEnvC scope cl C X.env) fp) vs1 tg1 g1) (ht1 : ∀ (s : Shared) (H : Hp) (C : Addr) (cl : List (Str × Addr)) (fp : List Addr), DTs T (X.blk s H scope (compEnvC scope cl C X.env) fp) ifs1 tt1)
    (he : ∀ (s : Shared) (H : Hp) (C : Addr) (cl : List (Str × Addr)) (fp : List Addr), DE T (X.blk s H scope (compEnvC scope cl C X.env) fp) elt te) (hs : ∀ x, foldedSetIterable iter X.env x = pure x := by intro _; rfl) (hs1 : ∀ (env : Env) x, foldedSetIterable iter1 env x = pure x := by intro _ _; rfl) :
    DE T X (.ListComp elt [⟨tg, iter, ifs, 0⟩, ⟨tg1, iter1, ifs1, 0⟩] scope pos) (dLc2G f g tt f1 g1 tt1 te (own.map (·.2)) vs1 fin) :=
  PE.imp (pe_lc2 hc hN hi ok hv hg ht hi1 hg1 ht1 he hs hs1) fun _ _ _ h => lift_lc2 fo h
end
end DL
namespace DL
open PySem PySem.Spec PyProof.Rows L2 LamX PySem.W SL
section
variable {P : Program} {w : World} {K : Frag} {mg : Str → Option Value} {base : Heap} {T : List (Addr × Str)}
theorem _root_.L2.Fun.bindsK {x qual : Str} {st : Stmt} {f : Addr} {fd : FuncData} {s : Shared} {args : Args} {bs : List (Str × Value)} (F : Fun K x qual st f fd)
    (h : ∀ (kV doc pm : Value) (an : Option Addr) (cdv ct : Value), bindArgs (PySem.W.fnOf x qual (defArgs st) (defBody st) (defScope st) .none kV doc pm an cdv ct) args = pure bs) : BindsTo s fd args bs := by
  obtain ⟨oc, od, kV, doc, pm, an, cdv, ct, osl, rfl, lk, hcd⟩ := F.ex
  exact .of_eq (h kV doc pm an cdv ct)
theorem _root_.L2.Fun.one {x qual x' qual' : Str} {st st' : Stmt} {f : Addr} {fd fd' : FuncData} (F : Fun K x qual st f fd) (G : Fun K x' qual' st' f fd') : fd = fd' := by
  obtain ⟨_, _, _, _, _, _, _, _, _, _, l1, _⟩ := F.ex
  obtain ⟨_, _, _, _, _, _, _, _, _, _, l2, _⟩ := G.ex
  rw [l1] at l2
  cases l2
  rfl
def Scr (ns : List Int) (x : D) : Prop := x = .scr (ns.map D.int)
theorem Scr.seq {ns : List Int} {x : D} (h : Scr ns x) (st : DSt) : seqS st x = some (ns.map D.int) := by rw [show x = _ from h]; rfl
theorem law_start {cs : List (Addr × Addr)} {H : Hp} {a : Addr} {ns : List Int} {g : DRs} (hT : ∀ p ∈ T, ∃ q ∈ cs, q.2 = p.1) (em : ∀ p ∈ cs, H p.2 = some (.tbl #[])) (hS : SqL K H a (ns.map V.int)) (h : ∀ x, Scr ns x → g [x] [] fun d _ => d = .bl true) :
    spD T K 1 g [.ref a] H (fun v _ => v = .bl true) E0 := by
  obtain ⟨x, hx, rx⟩ : ∃ x, Scr ns x ∧ RV K ⟨0, []⟩ H x (.ref a) := by
    rcases hS with hS | hS
    · exact ⟨_, rfl, .scr (by simp) hS (RVs.of_ints ns)⟩
    · exact ⟨_, rfl, .lsk (fun G => .inr hS) (RVs.of_ints ns)⟩
  refine ⟨rfl, ⟨0, []⟩, [], [x], _, ⟨rfl, List.nodup_nil, fun n a o e => by simp [Pl.at_] at e, fun p hp => ?_, fun a ha => by simp at ha⟩, .cons rx .nil, h x hx, fun M' H' st' d v g s r q => ?_⟩
  · obtain ⟨q, hq, e⟩ := hT p hp
    have z := TabS.nil (q := p.2) (em q hq)
    rw [e] at z
    exact z
  · subst q
    cases r
    rfl
end
end DL
namespace DL
open PySem PySem.Spec PyProof.Rows L2 LamX PySem.W SL
section
variable {T : List (Addr × Str)} {X : Cx} {a b c e : Expr} {es : List Expr} {fa fb fc f : DTE} {fs : DTA} {pos p : Pos} {K : Frag}
def dIsB : DR2 := fun x y st Q => onB x fun a => onB y fun b => Q (.bl (decide (a = b))) st
def dNotB : DR2 := fun x y st Q => onB x fun a => onB y fun b => Q (.bl (!decide (a = b))) st
def truD (st : DSt) : D → Option Bool
  | .bl b => some b
  | .non => some false
  | .int i => some (i != 0)
  | .tup xs => some (!xs.isEmpty)
  | .tuk xs => some (!xs.isEmpty)
  | .lst xs => some (!xs.isEmpty)
  | .scr xs => some (!xs.isEmpty)
  | .ref n => match st[n]? with | some (.lst xs) => some (!xs.isEmpty) | some (.dK kvs) => some (!kvs.isEmpty) | _ => none
  | _ => none
def dTruth (f : DTE) : DTT := fun r st Q => f r st fun x st1 => onO (truD st1 x) fun c => Q c st1
def dLenSet (f : DTE) : DTE := fun r st Q => f r st fun x st1 => match x with
  | .tup xs => onO (intsD xs) fun ns => ns.length ≤ 4000 ∧ ∀ ks : List Int, ks.Nodup → (∀ k, k ∈ ks ↔ k ∈ ns) → Q (.int (ks.length : Nat)) st1
  | _ => False
theorem de_lenSet {p2 q : Pos} (g1 : Gl X "len") (m1 : X.mg "len" = none) (g2 : Gl X "set") (m2 : X.mg "set" = none) (ha : DE T X a fa) (calm : X.calm = true := by rfl) (one : starEach [a] X.env = (false, eval a X.env) :: starEach [] X.env := by rfl) :
    DE T X (.Call (.Name "len" p) [.Call (.Name "set" p2) [a] [] q] [] pos) (dLenSet fa) :=
  PE.imp (pe_lenSetT g1 m1 g2 m2 ha calm one) fun σ H Q ⟨M, ρ, st, Q', s, re, hf, k⟩ => ⟨M, ρ, st, _, s, re, hf, fun M1 H1 st1 x vx g1 s1 r1 h1 => by
    cases x with
    | tup xs =>
      obtain ⟨ns, e, few, h2⟩ := onO.of h1
      have e := intsD_of e
      subst e
      cases r1 with
      | tup n e0 d0 rs =>
        have z := rs.ints
        subst z
        exact ⟨_, ns, rfl, .inl (.inr ⟨_, e0⟩), few, fun ks h3 h4 => (k.grow g1).here s1 (.int _) (h2 ks h3 h4)⟩
    | _ => exact h1.elim⟩
end
end DL
namespace DL
open PySem PySem.Spec PyProof.Rows L2 LamX PySem.W SL
section
variable {prog : Program} {w : World} {A : Around} {E : Value → Shared → Prop} {s : Shared} {l : Addr} {its : List Value} {ns : List Int} {Q : Value → Shared → Prop}
end
section
variable {X : Cx} {T : List (Addr × Str)} {K : Frag}
def onNs (st : DSt) (x : D) (k : List Int → Prop) : Prop := onO (seqS st x) fun xs => onO (intsD xs) k
theorem onNs.of {st : DSt} {x : D} {k : List Int → Prop} (h : onNs st x k) : ∃ ns, seqS st x = some (ns.map D.int) ∧ k ns := by
  obtain ⟨xs, e, h⟩ := onO.of h
  obtain ⟨ns, e2, h⟩ := onO.of h
  exact ⟨ns, by rw [e, intsD_of e2], h⟩
def dSum : DRs := fun ds st Q => on1 ds fun x => onNs st x fun ns => Q (.int ns.sum) st
def dMaxL : DRs := fun ds st Q => on1 ds fun x => onNs st x fun ns => 0 < ns.length ∧ ∀ m, m ∈ ns → (∀ y, y ∈ ns → y ≤ m) → Q (.int m) st
def dMinL : DRs := fun ds st Q => on1 ds fun x => onNs st x fun ns => 0 < ns.length ∧ ∀ m, m ∈ ns → (∀ y, y ∈ ns → m ≤ y) → Q (.int m) st
def dInt : DRs := fun ds st Q => on1 ds fun x => match x with
  | .int i => Q (.int i) st
  | .bl b => Q (.int (if b then 1 else 0)) st
  | _ => False
end
end DL
namespace DL
open PySem PySem.Spec PyProof.Rows L2 LamX PySem.W SL
section
variable {X : Cx} {T : List (Addr × Str)} {K : Frag}
def dMaxDef (fs : DTE) (fd : DTE) : DTE := fun r st Q => fs r st fun x st1 => fd r st1 fun d st2 => onNs st2 x fun ns => (ns = [] → Q d st2) ∧ ∀ m, m ∈ ns → (∀ y, y ∈ ns → y ≤ m) → Q (.int m) st2
end
end DL
namespace DL
open PySem PySem.Spec PyProof.Rows L2 LamX PySem.W SL
end DL
namespace DL
open PySem PySem.Spec PyProof.Rows L2 LamX PySem.W SL
def keyD : D → Option Key
  | .int i => some (.inl i)
  | .str x => some (.inr x)
  | _ => none
theorem RV.key {K : Frag} {M : Pl} {H : Hp} {d : D} {v : V} {k : Key} (r : RV K M H d v) (h : keyD d = some k) : v = kV k := by
  cases r <;> first | (cases h; rfl) | cases h
def valD {κ : Type} [DecidableEq κ] (kvs : List (κ × D)) (k : κ) : Option D := (kvs.find? fun kv => decide (kv.1 = k)).map (·.2)
def putD {κ : Type} [DecidableEq κ] (kvs : List (κ × D)) (k : κ) (v : D) : List (κ × D) :=
  if (kvs.any fun kv => decide (kv.1 = k)) = true then kvs.map (fun kv => if kv.1 = k then (kv.1, v) else kv) else kvs ++ [(k, v)]
structure KVs {κ : Type} (K : Frag) (M : Pl) (H : Hp) (kvs : List (κ × D)) (ys : List (κ × V)) : Prop where
  ks : kvs.map (·.1) = ys.map (·.1)
  vs : RVs K M H (kvs.map (·.2)) (ys.map (·.2))
section
variable {κ : Type} [DecidableEq κ] {K : Frag} {M : Pl} {H : Hp}
theorem KVs.nil : KVs K M H ([] : List (κ × D)) [] := ⟨rfl, .nil⟩
theorem KVs.cons {k : κ} {d : D} {v : V} {kvs : List (κ × D)} {ys : List (κ × V)} (h : RV K M H d v) (t : KVs K M H kvs ys) : KVs K M H ((k, d) :: kvs) ((k, v) :: ys) := ⟨by rw [List.map_cons, List.map_cons, t.ks], .cons h t.vs⟩
theorem KVs.un {k : κ} {d : D} {kvs : List (κ × D)} {ys : List (κ × V)} (h : KVs K M H ((k, d) :: kvs) ys) : ∃ v zs, ys = (k, v) :: zs ∧ RV K M H d v ∧ KVs K M H kvs zs := by
  obtain ⟨h1, h2⟩ := h
  cases ys with
  | nil => cases h1
  | cons y zs =>
    obtain ⟨k', v⟩ := y
    rw [List.map_cons, List.map_cons] at h1 h2
    cases h2 with
    | cons a b =>
      have e := List.cons.inj h1
      cases e.1
      exact ⟨v, zs, rfl, a, e.2, b⟩
theorem KVs.grow {M' : Pl} {H' : Hp} {kvs : List (κ × D)} {ys : List (κ × V)} (h : KVs K M H kvs ys) (g : Grow M H M' H') : KVs K M' H' kvs ys := ⟨h.ks, h.vs.grow g⟩
theorem KVs.length {kvs : List (κ × D)} {ys : List (κ × V)} (h : KVs K M H kvs ys) : kvs.length = ys.length := by
  have := congrArg List.length h.ks
  rw [List.length_map, List.length_map] at this
  exact this
theorem KVs.any {k : κ} : ∀ {kvs : List (κ × D)} {ys : List (κ × V)}, KVs K M H kvs ys → (kvs.any fun kv => decide (kv.1 = k)) = (ys.any fun kv => decide (kv.1 = k))
  | [], ys, h => by
    have : ys = [] := by cases ys with | nil => rfl | cons _ _ => cases h.ks
    subst this
    rfl
  | (k', d) :: kvs, ys, h => by
    obtain ⟨v, zs, rfl, rv, t⟩ := h.un
    rw [List.any_cons, List.any_cons, KVs.any t]
theorem KVs.app {k : κ} {d : D} {v : V} (h : RV K M H d v) : ∀ {kvs : List (κ × D)} {ys : List (κ × V)}, KVs K M H kvs ys → KVs K M H (kvs ++ [(k, d)]) (ys ++ [(k, v)])
  | [], ys, t => by
    have : ys = [] := by cases ys with | nil => rfl | cons _ _ => cases t.ks
    subst this
    exact .cons h .nil
  | (k', d') :: kvs, ys, t => by
    obtain ⟨v', zs, rfl, rv, t'⟩ := t.un
    exact .cons rv (KVs.app h t')
theorem KVs.upd {k : κ} {d : D} {v : V} (h : RV K M H d v) : ∀ {kvs : List (κ × D)} {ys : List (κ × V)}, KVs K M H kvs ys → KVs K M H (kvs.map fun kv => if kv.1 = k then (kv.1, d) else kv) (ys.map fun kv => if kv.1 = k then (kv.1, v) else kv)
  | [], ys, t => by
    have : ys = [] := by cases ys with | nil => rfl | cons _ _ => cases t.ks
    subst this
    exact .nil
  | (k', d') :: kvs, ys, t => by
    obtain ⟨v', zs, rfl, rv, t'⟩ := t.un
    rw [List.map_cons, List.map_cons]
    by_cases e : k' = k
    · rw [if_pos e, if_pos e]; exact .cons h (KVs.upd h t')
    · rw [if_neg e, if_neg e]; exact .cons rv (KVs.upd h t')
theorem KVs.put {k : κ} {d : D} {v : V} {kvs : List (κ × D)} {ys : List (κ × V)} (h : RV K M H d v) (t : KVs K M H kvs ys) : KVs K M H (putD kvs k d) (putK ys k v) := by
  unfold putD putK
  rw [t.any (k := k)]
  split
  · exact t.upd h
  · exact t.app h
end
def onDk (st : DSt) (x : D) (k : Nat → List (Key × D) → Prop) : Prop := match x with
  | .ref n => match st[n]? with | some (.dK kvs) => k n kvs | _ => False
  | _ => False
theorem onDk.of {st : DSt} {d : D} {k : Nat → List (Key × D) → Prop} (h : onDk st d k) : ∃ n kvs, d = .ref n ∧ st[n]? = some (.dK kvs) ∧ k n kvs := by
  cases d with
  | ref n =>
    unfold onDk at h
    simp only at h
    split at h
    · rename_i kvs e
      exact ⟨n, kvs, rfl, e, h⟩
    · exact h.elim
  | _ => exact h.elim
section
variable {T : List (Addr × Str)} {X : Cx} {K : Frag} {a b o i : Expr} {fa fb fo fi fv : DTE} {pos : Pos}
theorem onDk.rd {M : Pl} {H : Hp} {st : DSt} {n : Nat} {kvs : List (Key × D)} {v : V} (s : RS T K M st H) (r : RV K M H (.ref n) v) (e : st[n]? = some (.dK kvs)) : ∃ a ys, v = .ref a ∧ M.at_ n = some a ∧ H a = some (.dK ys) ∧ KVs K M H kvs ys := by
  cases r with
  | ref hm =>
    obtain ⟨ys, e1, e2, e3⟩ := s.obj n _ _ hm e
    exact ⟨_, ys, rfl, hm, e1, ⟨e2, e3⟩⟩
def dNewK : DTE := fun _ st Q => Q (.ref st.length) (st ++ [.dK []])
def dGetK : DR2 := fun x y st Q => onDk st x fun n kvs => onO (keyD y) fun k => onO (valD kvs k) fun d => Q d st
def dInK (neg : Bool) (fy fd : DTE) : DTE := fun r st Q => fy r st fun y st1 => fd r st1 fun x st2 => onDk st2 x fun n kvs => onO (keyD y) fun k => Q (.bl (if neg then !(valD kvs k).isSome else (valD kvs k).isSome)) st2
def sPutK (fd fy fv : DTE) : DTS := fun E r st => fv r st fun v st1 => fd r st1 fun x st2 => fy r st2 fun y st3 => onDk st3 x fun n kvs => onO (keyD y) fun k => kvs.length < sizeLine ∧ E.nx r (st3.set n (.dK (putD kvs k v)))
def dLenK : DRs := fun ds st Q => on1 ds fun x => onDk st x fun n kvs => Q (.int kvs.length) st
end
end DL
namespace DL
open PySem PySem.Spec PyProof.Rows L2 LamX PySem.W SL
section
variable {T : List (Addr × Str)} {X : Cx} {K : Frag} {a b o i : Expr} {fa fb fo fi fv : DTE} {pos : Pos}
def sAug (i : Nat) (g : Int → Int → Int) (f : DTE) : DTS := fun E r st => onOO r[i]? fun x => f r st fun y st1 => onI x fun m => onI y fun n => E.nx (r.set i (some (.int (g m n)))) st1
def on3 (ds : List D) (k : D → D → D → Prop) : Prop := match ds with | [x, y, z] => k x y z | _ => False
theorem on3.of {ds : List D} {k : D → D → D → Prop} (h : on3 ds k) : ∃ x y z, ds = [x, y, z] ∧ k x y z := by
  match ds, h with
  | [x, y, z], h => exact ⟨x, y, z, rfl, h⟩
  | [], h => exact h.elim
  | [_], h => exact h.elim
  | [_, _], h => exact h.elim
  | _ :: _ :: _ :: _ :: _, h => exact h.elim
def sPar3 (i j l : Nat) (f : DTA) : DTS := fun E r st => f r st fun ds st1 => on3 ds fun d e g => E.nx (((r.set i (some d)).set j (some e)).set l (some g)) st1
end
end DL
namespace SL
open PySem PySem.Spec PyProof.Rows L2 LamX PySem.W PySem.Calls
section
variable {P : Program} {w : World} {A : Around} {E : Value → Shared → Prop} {s : Shared} {a fa : Addr} {Q : Value → Shared → Prop} {kz : List PyData} {its : List Value} {o : Obj} {n : Nat} {T : String}
end
end SL
namespace DL
open PySem PySem.Spec PyProof.Rows L2 LamX PySem.W SL
end DL
namespace DL
open PySem PySem.Spec PyProof.Rows L2 LamX PySem.W SL
section
variable {r : DEnv} {st : DSt} {Q : DK} {E : DEnds} {f fa fb fc : DTE} {fs : DTA} {t u : DTT} {F G : DTS} {x y : D} {i j : Int} {R2' : DR2} {Rs : DRs} {i' j' : Nat}
@[simp] theorem e_var : dVar i' r st Q = onOO r[i']? fun d => Q d st := rfl
@[simp] theorem e_C : dC x r st Q = Q x st := rfl
@[simp] theorem e_op : dOp R2' fa fb r st Q = fa r st fun x st1 => fb r st1 fun y st2 => R2' x y st2 Q := rfl
@[simp] theorem e_neg : dNeg f r st Q = f r st fun x st1 => onI x fun i => Q (.int (-i)) st1 := rfl
@[simp] theorem e_isN : dIsN f r st Q = f r st fun x st1 => Q (.bl (isNon x)) st1 := rfl
@[simp] theorem e_notN : dNotN f r st Q = f r st fun x st1 => Q (.bl (!isNon x)) st1 := rfl
@[simp] theorem e_and : dAndV fa fb r st Q = fa r st fun x st1 => onB x fun c => if c = true then fb r st1 Q else Q (.bl false) st1 := rfl
@[simp] theorem e_or : dOrV fa fb r st Q = fa r st fun x st1 => onB x fun c => if c = true then Q (.bl true) st1 else fb r st1 Q := rfl
@[simp] theorem e_not : dNotV f r st Q = f r st fun x st1 => onB x fun c => Q (.bl (!c)) st1 := rfl
@[simp] theorem e_test {Qb : Bool → DSt → Prop} : dTest f r st Qb = f r st fun x st1 => onB x fun c => Qb c st1 := rfl
@[simp] theorem e_tAnd {Qb : Bool → DSt → Prop} : dtAnd t u r st Qb = t r st fun c st1 => if c = true then u r st1 Qb else Qb false st1 := rfl
@[simp] theorem e_tOr {Qb : Bool → DSt → Prop} : dtOr t u r st Qb = t r st fun c st1 => if c = true then Qb true st1 else u r st1 Qb := rfl
@[simp] theorem e_tNot {Qb : Bool → DSt → Prop} : dtNot t r st Qb = t r st fun c st1 => Qb (!c) st1 := rfl
@[simp] theorem e_tYes {Qb : Bool → DSt → Prop} : dtYes r st Qb = Qb true st := rfl
@[simp] theorem e_if : dIf t fa fb r st Q = t r st fun c st1 => if c = true then fa r st1 Q else fb r st1 Q := rfl
@[simp] theorem e_aNil {Qa : List D → DSt → Prop} : daNil r st Qa = Qa [] st := rfl
@[simp] theorem e_aCons {Qa : List D → DSt → Prop} : daCons f fs r st Qa = f r st fun d st1 => fs r st1 fun ds st2 => Qa (d :: ds) st2 := rfl
@[simp] theorem e_tup : dTup fs r st Q = fs r st fun ds st1 => okLen ds (Q (.tup ds) st1) := rfl
@[simp] theorem e_lst : dLst fs r st Q = fs r st fun ds st1 => okLen ds (Q (.lst ds) st1) := rfl
@[simp] theorem e_lstN : dLstN fs r st Q = fs r st fun ds st1 => okLen ds (Q (.ref st1.length) (st1 ++ [.lst ds])) := rfl
@[simp] theorem e_len0 {P : Prop} : okLen [] P = P := rfl
@[simp] theorem e_len1 {P : Prop} {a : D} : okLen [a] P = P := rfl
@[simp] theorem e_len2 {P : Prop} {a b : D} : okLen [a, b] P = P := rfl
@[simp] theorem e_len3 {P : Prop} {a b c : D} : okLen [a, b, c] P = P := rfl
@[simp] theorem e_len4 {P : Prop} {a b c d : D} : okLen [a, b, c, d] P = P := rfl
@[simp] theorem e_len5 {P : Prop} {a b c d e : D} : okLen [a, b, c, d, e] P = P := rfl
@[simp] theorem e_cb : dCB Rs fs r st Q = fs r st fun ds st1 => Rs ds st1 Q := rfl
@[simp] theorem e_on1 {k : D → Prop} {a : D} : on1 [a] k = k a := rfl
@[simp] theorem e_on2 {k : D → D → Prop} {a b : D} : on2 [a, b] k = k a b := rfl
@[simp] theorem e_onI {k : Int → Prop} : onI (.int i) k = k i := rfl
@[simp] theorem e_onB {k : Bool → Prop} {b : Bool} : onB (.bl b) k = k b := rfl
@[simp] theorem e_onO {α : Type} {k : α → Prop} {b : α} : onO (some b) k = k b := rfl
@[simp] theorem e_onO0 {α : Type} {k : α → Prop} : onO none k = False := rfl
@[simp] theorem e_onOO {k : D → Prop} {b : D} : onOO (some (some b)) k = k b := rfl
@[simp] theorem e_I0 {g : Int → Int → D} : dI0 g x y st Q = onI x fun i => onI y fun j => Q (g i j) st := rfl
@[simp] theorem e_I {C : Int → Int → Prop} {g : Int → Int → D} : dI C g x y st Q = onI x fun i => onI y fun j => C i j ∧ Q (g i j) st := rfl
@[simp] theorem e_add {fin : DK → List D → DSt → Prop} : dAddG fin (.int i) (.int j) st Q = Q (.int (i + j)) st := rfl
@[simp] theorem e_addT {fin : DK → List D → DSt → Prop} {xs ys : List D} : dAddG fin (.tup xs) (.tup ys) st Q = (xs.length + ys.length ≤ sizeLine ∧ Q (.tup (xs ++ ys)) st) := rfl
@[simp] theorem e_addS {fin : DK → List D → DSt → Prop} {a b : Str} : dAddG fin (.str a) (.str b) st Q = (a.length + b.length ≤ sizeLine ∧ Q (.str (a ++ b)) st) := rfl
@[simp] theorem e_addL {fin : DK → List D → DSt → Prop} {xs ys : List D} : dAddG fin (.lst xs) (.lst ys) st Q = (xs.length + ys.length ≤ sizeLine ∧ fin Q (xs ++ ys) st) := rfl
@[simp] theorem e_addLR {fin : DK → List D → DSt → Prop} {xs : List D} {n : Nat} : dAddG fin (.lst xs) (.ref n) st Q = onO (lstS st (.ref n)) fun ys => xs.length + ys.length ≤ sizeLine ∧ fin Q (xs ++ ys) st := rfl
@[simp] theorem e_addRL {fin : DK → List D → DSt → Prop} {ys : List D} {n : Nat} : dAddG fin (.ref n) (.lst ys) st Q = onO (lstS st (.ref n)) fun xs => xs.length + ys.length ≤ sizeLine ∧ fin Q (xs ++ ys) st := rfl
@[simp] theorem e_addRR {fin : DK → List D → DSt → Prop} {m n : Nat} : dAddG fin (.ref m) (.ref n) st Q = onO (lstS st (.ref m)) fun xs => onO (lstS st (.ref n)) fun ys => xs.length + ys.length ≤ sizeLine ∧ fin Q (xs ++ ys) st := rfl
@[simp] theorem e_mul {fin : DK → List D → DSt → Prop} : dMulG fin (.int i) (.int j) st Q = (CMul i j ∧ Q (.int (i * j)) st) := rfl
@[simp] theorem e_mulL {fin : DK → List D → DSt → Prop} {xs : List D} : dMulG fin (.lst xs) (.int i) st Q = ((-1000 ≤ i ∧ xs.length * i.toNat ≤ 1000 ∧ i ≤ 100000000) ∧ fin Q (List.replicate i.toNat xs).flatten st) := rfl
@[simp] theorem e_mulT {fin : DK → List D → DSt → Prop} {xs : List D} : dMulG fin (.tup xs) (.int i) st Q = (xs ≠ [] ∧ 1 ≤ i ∧ i ≤ 1000 ∧ xs.length ≤ 1000 ∧ Q (.tup (List.replicate i.toNat xs).flatten) st) := rfl
@[simp] theorem e_rev : dRev f r st Q = f r st fun x st1 => dRevV x st1 Q := rfl
@[simp] theorem e_revT {xs : List D} : dRevV (.tup xs) st Q = Q (.tup xs.reverse) st := rfl
@[simp] theorem e_ix : dIx x y st Q = onO (seqS st x) fun ds => onI y fun i => onO (atI ds i) fun d => Q d st := rfl
@[simp] theorem e_eqI : dEqG false (.int i) (.int j) st Q = Q (.bl (decide (i = j))) st := rfl
@[simp] theorem e_eqS {a b : Str} : dEqG false (.str a) (.str b) st Q = Q (.bl (decide (a = b))) st := rfl
@[simp] theorem e_eqB {a b : Bool} : dEqG false (.bl a) (.bl b) st Q = Q (.bl (decide (a = b))) st := rfl
@[simp] theorem e_neI : dEqG true (.int i) (.int j) st Q = Q (.bl (!decide (i = j))) st := rfl
@[simp] theorem e_neS {a b : Str} : dEqG true (.str a) (.str b) st Q = Q (.bl (!decide (a = b))) st := rfl
@[simp] theorem e_neB {a b : Bool} : dEqG true (.bl a) (.bl b) st Q = Q (.bl (!decide (a = b))) st := rfl
@[simp] theorem e_ltI : dLtG (.int i) (.int j) st Q = Q (.bl (decide (i < j))) st := rfl
@[simp] theorem e_in : dInG false x y st Q = onO (seqS st y) fun ds => (flatD x = true ∧ ds.all flatD = true) ∧ Q (.bl (ds.any fun y => eqF y x)) st := rfl
@[simp] theorem e_nin : dInG true x y st Q = onO (seqS st y) fun ds => (flatD x = true ∧ ds.all flatD = true) ∧ Q (.bl (!(ds.any fun y => eqF y x))) st := rfl
@[simp] theorem e_chain {a b : DR2} : dChain a b fa fb fc r st Q = fa r st fun x st1 => fb r st1 fun y st2 => a x y st2 fun z st3 => onB z fun k => if k = true then fc r st3 fun w st4 => b y w st4 Q else Q (.bl false) st3 := rfl
@[simp] theorem e_len : dLen [x] st Q = onO (seqS st x) fun xs => Q (.int xs.length) st := rfl
@[simp] theorem e_abs : dAbs [.int i] st Q = Q (.int (if i < 0 then -i else i)) st := rfl
@[simp] theorem e_2I {g : Int → Int → Int} : d2I g [.int i, .int j] st Q = Q (.int (g i j)) st := rfl
@[simp] theorem e_tuple1 {xs : List D} : dTuple [.tup xs] st Q = Q (.tup xs) st := rfl
@[simp] theorem e_tuple2 {xs : List D} : dTuple [.lst xs] st Q = Q (.tup xs) st := rfl
@[simp] theorem e_tuple3 {n : Nat} : dTuple [.ref n] st Q = onO (seqS st (.ref n)) fun xs => Q (.tup xs) st := rfl
@[simp] theorem e_listT : dListT [x] st Q = onO (seqS st x) fun xs => Q (.lst xs) st := rfl
@[simp] theorem e_listN : dListN [x] st Q = onO (seqS st x) fun xs => Q (.ref st.length) (st ++ [.lst xs]) := rfl
@[simp] theorem e_allR {g : List Bool → Bool} {xs : List D} : dAllR g [.lst xs] st Q = onO (boolsD xs) fun bs => Q (.bl (g bs)) st := rfl
@[simp] theorem e_seqT {xs : List D} : seqS st (.tup xs) = some xs := rfl
@[simp] theorem e_seqK {xs : List D} : seqS st (.tuk xs) = some xs := rfl
@[simp] theorem e_seqL {xs : List D} : seqS st (.lst xs) = some xs := rfl
theorem seq_ref {n : Nat} {xs : List D} (h : st[n]? = some (.lst xs)) : seqS st (.ref n) = some xs := by unfold seqS; simp only [h]
@[simp] theorem e_repr : dRepr [x] st Q = onO (pdS st x) fun p => (p.showable = true ∧ p.depth ≤ 50 ∧ p.shown.length ≤ sizeLine) ∧ Q (.str p.shown) st := rfl
@[simp] theorem e_isi {u : String} : dIsi u f r st Q = f r st fun x st1 => onO (tyN st1 x) fun t => Q (.bl (subTy t u)) st1 := rfl
@[simp] theorem e_isB {a b : Bool} : dIsB (.bl a) (.bl b) st Q = Q (.bl (decide (a = b))) st := rfl
@[simp] theorem e_notB {a b : Bool} : dNotB (.bl a) (.bl b) st Q = Q (.bl (!decide (a = b))) st := rfl
@[simp] theorem e_truth {Qb : Bool → DSt → Prop} : dTruth f r st Qb = f r st fun x st1 => onO (truD st1 x) fun c => Qb c st1 := rfl
@[simp] theorem e_next : sNext E r st = E.nx r st := rfl
@[simp] theorem e_seq : sSeq F G E r st = F { E with nx := G E } r st := rfl
@[simp] theorem e_drop : sDrop f E r st = f r st fun _ st1 => E.nx r st1 := rfl
@[simp] theorem e_ret : sRet f E r st = f r st E.rt := rfl
@[simp] theorem e_retN : sRetN E r st = E.rt .non st := rfl
@[simp] theorem e_ifS : sIf t F G E r st = t r st fun b st1 => if b = true then F E r st1 else G E r st1 := rfl
@[simp] theorem e_set : sSet i' f E r st = f r st fun d st1 => E.nx (r.set i' (some d)) st1 := rfl
@[simp] theorem e_asg {g : DTG} : sAsg f g E r st = f r st fun d st1 => g d r st1 E.nx := rfl
@[simp] theorem e_par : sPar i' j' fs E r st = fs r st fun ds st1 => on2 ds fun d e => E.nx ((r.set i' (some d)).set j' (some e)) st1 := rfl
@[simp] theorem e_nm {k : DEnv → DSt → Prop} : gNm i' x r st k = k (r.set i' (some x)) st := rfl
@[simp] theorem e_gsN {k : DEnv → DSt → Prop} : gsNil [] r st k = k r st := rfl
@[simp] theorem e_gsC {k : DEnv → DSt → Prop} {g : DTG} {h : DTGs} {ds : List D} : gsCons g h (x :: ds) r st k = g x r st fun r1 st1 => h ds r1 st1 k := rfl
@[simp] theorem e_gTpK {k : DEnv → DSt → Prop} {h : DTGs} {ds : List D} : gTp i' h (.tuk ds) r st k = (ds.length = i' ∧ h ds r st k) := rfl
@[simp] theorem e_gTpL {k : DEnv → DSt → Prop} {h : DTGs} {ds : List D} : gTp i' h (.lst ds) r st k = (ds.length = i' ∧ h ds r st k) := rfl
@[simp] theorem e_sum : dSum [x] st Q = onO (seqS st x) fun xs => onO (intsD xs) fun ns => Q (.int ns.sum) st := rfl
@[simp] theorem e_maxL : dMaxL [x] st Q = onO (seqS st x) fun xs => onO (intsD xs) fun ns => 0 < ns.length ∧ ∀ m, m ∈ ns → (∀ y, y ∈ ns → y ≤ m) → Q (.int m) st := rfl
@[simp] theorem e_minL : dMinL [x] st Q = onO (seqS st x) fun xs => onO (intsD xs) fun ns => 0 < ns.length ∧ ∀ m, m ∈ ns → (∀ y, y ∈ ns → m ≤ y) → Q (.int m) st := rfl
@[simp] theorem e_maxDef : dMaxDef fa fb r st Q = fa r st fun x st1 => fb r st1 fun d st2 => onO (seqS st2 x) fun xs => onO (intsD xs) fun ns => (ns = [] → Q d st2) ∧ ∀ m, m ∈ ns → (∀ y, y ∈ ns → y ≤ m) → Q (.int m) st2 := rfl
@[simp] theorem e_int : dInt [.int i] st Q = Q (.int i) st := rfl
@[simp] theorem e_intB {b : Bool} : dInt [.bl b] st Q = Q (.int (if b then 1 else 0)) st := rfl
@[simp] theorem e_aug {g : Int → Int → Int} : sAug i' g f E r st = onOO r[i']? fun x => f r st fun y st1 => onI x fun m => onI y fun n => E.nx (r.set i' (some (.int (g m n)))) st1 := rfl
@[simp] theorem e_on3 {k : D → D → D → Prop} {a b c : D} : on3 [a, b, c] k = k a b c := rfl
@[simp] theorem e_par3 {l' : Nat} : sPar3 i' j' l' fs E r st = fs r st fun ds st1 => on3 ds fun d e g => E.nx (((r.set i' (some d)).set j' (some e)).set l' (some g)) st1 := rfl
@[simp] theorem e_newK : dNewK r st Q = Q (.ref st.length) (st ++ [.dK []]) := rfl
@[simp] theorem e_getK : dGetK x y st Q = onDk st x fun n kvs => onO (keyD y) fun k => onO (valD kvs k) fun d => Q d st := rfl
@[simp] theorem e_keyI : keyD (.int i) = some (.inl i) := rfl
@[simp] theorem e_keyS {a : Str} : keyD (.str a) = some (.inr a) := rfl
@[simp] theorem e_inK : dInK false fa fb r st Q = fa r st fun y st1 => fb r st1 fun x st2 => onDk st2 x fun n kvs => onO (keyD y) fun k => Q (.bl (valD kvs k).isSome) st2 := rfl
@[simp] theorem e_ninK : dInK true fa fb r st Q = fa r st fun y st1 => fb r st1 fun x st2 => onDk st2 x fun n kvs => onO (keyD y) fun k => Q (.bl (!(valD kvs k).isSome)) st2 := rfl
@[simp] theorem e_putK : sPutK fa fb fc E r st = fc r st fun v st1 => fa r st1 fun x st2 => fb r st2 fun y st3 => onDk st3 x fun n kvs => onO (keyD y) fun k => kvs.length < sizeLine ∧ E.nx r (st3.set n (.dK (putD kvs k v))) := rfl
@[simp] theorem e_lenK : dLenK [x] st Q = onDk st x fun n kvs => Q (.int kvs.length) st := rfl
@[simp] theorem e_lstS {xs : List D} : lstS st (.lst xs) = some xs := rfl
@[simp] theorem e_seqX {xs : List D} : seqS st (.scr xs) = some xs := rfl
@[simp] theorem e_gTpT {k : DEnv → DSt → Prop} {h : DTGs} {ds : List D} : gTp i' h (.tup ds) r st k = (ds.length = i' ∧ h ds r st k) := rfl
@[simp] theorem e_oN {k : Option Int → DSt → Prop} : oNone r st k = k none st := rfl
@[simp] theorem e_oS {k : Option Int → DSt → Prop} : oSome f r st k = f r st fun d st1 => onI d fun i => k (some i) st1 := rfl
@[simp] theorem e_sl {fin : DK → List D → DSt → Prop} {lo hi : DTO} : dSlG fin f lo hi r st Q = f r st fun x st1 => lo r st1 fun l st2 => hi r st2 fun u st3 => dSlV fin x l u st3 Q := rfl
@[simp] theorem e_slT {fin : DK → List D → DSt → Prop} {lo hi : Option Int} {xs : List D} : dSlV fin (.tup xs) lo hi st Q = Q (.tup (cutD xs lo hi)) st := rfl
@[simp] theorem e_slL {fin : DK → List D → DSt → Prop} {lo hi : Option Int} {xs : List D} : dSlV fin (.lst xs) lo hi st Q = fin Q (cutD xs lo hi) st := rfl
@[simp] theorem e_finT {xs : List D} : finT Q xs st = Q (.lst xs) st := rfl
@[simp] theorem e_finN {xs : List D} : finN Q xs st = Q (.ref st.length) (st ++ [.lst xs]) := rfl
@[simp] theorem e_index : dIndex f fs r st Q = f r st fun x st1 => IdxD st1 x ∧ fs r st1 fun ds st2 => mIndex x ds st2 Q := rfl
@[simp] theorem e_idxT {xs : List D} : IdxD st (.tup xs) = True := rfl
@[simp] theorem e_idxL {xs : List D} : IdxD st (.lst xs) = True := rfl
@[simp] theorem e_mIx : mIndex x [.int i] st Q = onO (ixS st x) fun xs => onO (intsD xs) fun ns => onO (ixOf i ns) fun j => Q (.int (j : Nat)) st := rfl
@[simp] theorem e_ixST {xs : List D} : ixS st (.tup xs) = some xs := rfl
@[simp] theorem e_ixSL {xs : List D} : ixS st (.lst xs) = some xs := rfl
@[simp] theorem e_mtL {m : D → List D → DSt → DK → Prop} : dMtL m f fs r st Q = f r st fun x st1 => LstD st1 x ∧ fs r st1 fun ds st2 => m x ds st2 Q := rfl
@[simp] theorem e_w {k : DIt → DSt → Prop} : wSeq f r st k = f r st fun d st1 => onO (itOf st1 d) fun I => k I st1 := rfl
@[simp] theorem e_w1 {k : DIt → DSt → Prop} : wRng1 fs r st k = fs r st fun ds st1 => on1 ds fun x => onI x fun j => (-(2 ^ 62) ≤ j ∧ j < 2 ^ 62) ∧ k ⟨rgD 0 j.toNat, none⟩ st1 := rfl
@[simp] theorem e_w2 {k : DIt → DSt → Prop} : wRng2 fs r st k = fs r st fun ds st1 => on2 ds fun x y => onI x fun i => onI y fun j => (-(2 ^ 62) ≤ i ∧ i < 2 ^ 62 ∧ -(2 ^ 62) ≤ j ∧ j < 2 ^ 62) ∧ k ⟨rgD i (j - i).toNat, none⟩ st1 := rfl
@[simp] theorem e_wE {k : DIt → DSt → Prop} : wEnum fs r st k = fs r st fun ds st1 => on1 ds fun x => onO (itOf st1 x) fun I => k ⟨enumD I.items, I.src⟩ st1 := rfl
@[simp] theorem e_wZ {k : DIt → DSt → Prop} : wZip fs r st k = fs r st fun ds st1 => on2 ds fun x y => onO (itT x) fun I => onO (itT y) fun J => k ⟨zipD I.items J.items, none⟩ st1 := rfl
@[simp] theorem e_itK {xs : List D} : itOf st (.tuk xs) = some ⟨xs, none⟩ := rfl
@[simp] theorem e_itT {xs : List D} : itOf st (.tup xs) = some ⟨xs, none⟩ := rfl
@[simp] theorem e_itL {xs : List D} : itOf st (.lst xs) = some ⟨xs, none⟩ := rfl
@[simp] theorem e_itT2 {xs : List D} : itT (.tup xs) = some ⟨xs, none⟩ := rfl
@[simp] theorem e_itL2 {xs : List D} : itL st (.lst xs) = some ⟨xs, none⟩ := rfl
@[simp] theorem e_lc {w : DTI} {g : DTG} {vs : List Nat} {fin : DK → List D → DSt → Prop} : dLcG w g t f vs fin r st Q = w r st fun I st1 => I.items.length ≤ sizeLine ∧ compL I g t f (wipeD r vs) (fin Q) I.items [] st1 := rfl
@[simp] theorem e_for {w : DTI} {g : DTG} : sFor w g F E r st = w r st fun I st1 => forL I g F E st1 I.items r st1 := rfl
@[simp] theorem e_wipe0 : wipeD r [] = r := rfl
@[simp] theorem e_wipe {v : Nat} {vs : List Nat} : wipeD r (v :: vs) = (wipeD r vs).set v none := rfl
@[simp] theorem e_okI {xs : List D} {P : Prop} : okI ⟨xs, none⟩ st P = P := rfl
@[simp] theorem e_okR {xs ys : List D} {n : Nat} {P : Prop} : okI ⟨xs, some (n, .lst ys)⟩ st P = (st[n]? = some (.lst ys) ∧ P) := rfl
end
def Ev (f : DTE) (r : DEnv) (st : DSt) (d : D) : Prop := ∀ Q : DK, Q d st → f r st Q
def EvT (t : DTT) (r : DEnv) (st : DSt) (b : Bool) : Prop := ∀ Q : Bool → DSt → Prop, Q b st → t r st Q
theorem compL_map {g : DTG} {tt : DTT} {te : DTE} {r : DEnv} {Q : List D → DSt → Prop} {st : DSt} {xs : List D} (p : D → Bool) (h : D → D) :
    ∀ (items acc : List D), (∀ d ∈ items, ∀ Q' : DEnv → DSt → Prop, (∀ r2, EvT tt r2 st (p d) → (p d = true → Ev te r2 st (h d)) → Q' r2 st) → g d r st Q') → Q (acc ++ (items.filter p).map h) st → compL ⟨xs, none⟩ g tt te r Q items acc st
  | [], acc, _, q => by
    have q' : Q acc st := by simpa using q
    exact q'
  | d :: ds, acc, hh, q => by
    show g d r st _
    refine hh d List.mem_cons_self _ fun r2 e1 e2 => e1 _ ?_
    cases e : p d with
    | true =>
      refine iteT (e2 e _ (compL_map p h ds _ (fun d' hd => hh d' (List.mem_cons_of_mem _ hd)) ?_))
      rw [List.filter_cons_of_pos e, List.map_cons] at q
      simpa using q
    | false =>
      refine iteF (compL_map p h ds _ (fun d' hd => hh d' (List.mem_cons_of_mem _ hd)) ?_)
      rw [List.filter_cons_of_neg (by rw [e]; decide)] at q
      exact q
theorem lc_map {te : DTE} {r : DEnv} {Q : List D → DSt → Prop} {st : DSt} {xs items : List D} {i : Nat} (h : D → D) (he : ∀ d ∈ items, Ev te (r.set i (some d)) st (h d)) (q : Q (items.map h) st) : compL ⟨xs, none⟩ (gNm i) dtYes te r Q items [] st := by
  refine compL_map (fun _ => true) h items [] (fun d hd Q' k => k _ (fun Q q => q) fun _ => he d hd) ?_
  rw [List.filter_eq_self.mpr (fun _ _ => rfl)]
  simpa using q
theorem rgD_mem {lo : Int} {n : Nat} {d : D} (h : d ∈ rgD lo n) : ∃ i : Nat, i < n ∧ d = .int (lo + (i : Nat)) := by
  obtain ⟨i, hi⟩ := List.mem_iff_getElem?.mp h
  obtain ⟨lt, e⟩ := rgD_get hi
  exact ⟨i, lt, e⟩
theorem rgD0 (n : Nat) : rgD 0 n = (List.range n).map fun i => D.int (i : Nat) := by
  unfold rgD
  exact List.map_congr_left fun i _ => by rw [Int.zero_add]
theorem lc_rng {te : DTE} {r : DEnv} {Q : List D → DSt → Prop} {st : DSt} {xs : List D} {n i : Nat} (h : Nat → D) (he : ∀ k : Nat, k < n → Ev te (r.set i (some (.int (k : Nat)))) st (h k)) (q : Q ((List.range n).map h) st) : compL ⟨xs, none⟩ (gNm i) dtYes te r Q (rgD 0 n) [] st := by
  refine lc_map (fun d => match d with | .int i => h i.toNat | _ => .non) (fun d hd => ?_) ?_
  · obtain ⟨k, lt, rfl⟩ := rgD_mem hd
    rw [Int.zero_add]
    exact he k lt
  · rw [rgD0, List.map_map]
    exact q
theorem Wk.id {b : DSt} {P : DEnv → DSt → Prop} {r : DEnv} {st : DSt} (h : P r st) : Wk b P r st := .inl h
theorem for_inv {I : DIt} {g : DTG} {F : DTS} {E : DEnds} {b : DSt} (W : List D → DEnv → DSt → Prop)
    (turn : ∀ d ds r st (N : DEnv → DSt → Prop), (∀ r st, Wk b (W ds) r st → N r st) → W (d :: ds) r st → okI I st (g d r st fun r1 st1 => F { nx := N, rt := E.rt, bk := E.nx, ct := N } r1 st1)) (done : ∀ r st, W [] r st → okI I st (E.nx r st)) :
    ∀ (items : List D) (r : DEnv) (st : DSt), W items r st → forL I g F E b items r st
  | [], r, st, h => done r st h
  | d :: ds, r, st, h => by
    refine turn d ds r st _ (fun r st w => ?_) h
    rcases w with w | ⟨r', n, h1, h2, h3, h4, h5, w⟩
    · exact .inl (for_inv W turn done ds r st w)
    · exact .inr ⟨r', n, h1, h2, h3, h4, h5, for_inv W turn done ds r' _ w⟩
theorem while_inv {t : DTT} {F : DTS} {E : DEnds} {b : DSt} (W : Nat → DEnv → DSt → Prop)
    (turn : ∀ m r st (N : DEnv → DSt → Prop), (∀ k r st, k < m → Wk b (W k) r st → N r st) → W m r st → t r st fun c st1 => if c = true then F { nx := N, rt := E.rt, bk := E.nx, ct := N } r st1 else E.nx r st1) :
    ∀ (n m : Nat) (r : DEnv) (st : DSt), m < n → W m r st → whileL t F E b n r st
  | 0, m, r, st, lt, _ => absurd lt (Nat.not_lt_zero m)
  | n + 1, m, r, st, lt, h => by
    refine turn m r st _ (fun k r st lk w => ?_) h
    rcases w with w | ⟨r', j, h1, h2, h3, h4, h5, w⟩
    · exact .inl (while_inv W turn n k r st (by omega) w)
    · exact .inr ⟨r', j, h1, h2, h3, h4, h5, while_inv W turn n k r' _ (by omega) w⟩
theorem s_while {t : DTT} {F : DTS} {E : DEnds} {r : DEnv} {st : DSt} (W : Nat → DEnv → DSt → Prop) (m : Nat) (h : W m r st)
    (turn : ∀ m r st' (N : DEnv → DSt → Prop), (∀ k r st', k < m → Wk st (W k) r st' → N r st') → W m r st' → t r st' fun c st1 => if c = true then F { nx := N, rt := E.rt, bk := E.nx, ct := N } r st1 else E.nx r st1) : sWhile t F E r st :=
  ⟨m + 1, while_inv W turn (m + 1) m r st (Nat.lt_succ_self m) h⟩
end DL
namespace DL
open PySem PySem.Spec PyProof.Rows L2 LamX PySem.W SL
def F_is_integer_within : DTS := (sRet (dAndV (dIsi "int" (dVar 0)) (dAndV (dNotV (dIsi "bool" (dVar 0))) (dChain dLe dLe (dVar 1) (dVar 0) (dVar 2)))))
def F_are_integers_within (g_is_integer_within : DRs) : DTS := (sRet (dAndV (dIsi "tuple" (dVar 0)) (dCB dAll (daCons (dLcG (wSeq (dVar 0)) (gNm 3) dtYes (dCB g_is_integer_within (daCons (dVar 3) (daCons (dVar 1) (daCons (dVar 2) daNil)))) [3] finT) daNil))))
def F_is_rule (g_is_sized : DRs) (g_is_table : DRs) : DTS := (sSeq (sIf (dtOr (dtNot (dTest (dCB g_is_sized (daCons (dVar 0) daNil)))) (dtNot (dTest (dCB g_is_sized (daCons (dOp dIx (dVar 0) (dC (.int 0))) daNil))))) (sRet (dC (.bl false))) sNext) (sSeq (sSet 1 (dCB dLen (daCons (dOp dIx (dVar 0) (dC (.int 0))) daNil))) (sRet (dCB dAll (daCons (dLcG (wSeq (dVar 0)) (gNm 2) dtYes (dCB g_is_table (daCons (dVar 1) (daCons (dVar 2) daNil))) [2] finT) daNil)))))
def F_is_sized : DTS := (sRet (dAndV (dIsi "tuple" (dVar 0)) (dChain dLe dLe (dC (.int 1)) (dCB dLen (daCons (dVar 0) daNil)) (dC (.int (16))))))
def F_is_table (g_is_ascending : DRs) (g_is_decided : DRs) : DTS := (sSeq (sIf (dtOr (dtNot (dTest (dIsi "tuple" (dVar 1)))) (dTest (dOp dNe (dCB dLen (daCons (dVar 1) daNil)) (dVar 0)))) (sRet (dC (.bl false))) sNext) (sSeq (sIf (dtNot (dTest (dCB dAll (daCons (dLcG (wSeq (dVar 1)) (gNm 4) dtYes (dCB g_is_ascending (daCons (dVar 0) (daCons (dVar 4) daNil))) [4] finT) daNil)))) (sRet (dC (.bl false))) sNext) (sRet (dCB dAll (daCons (dLc2G (wRng1 (daCons (dVar 0) daNil)) (gNm 2) dtYes (wRng1 (daCons (dOp dAdd (dVar 2) (dC (.int 1))) daNil)) (gNm 3) dtYes (dCB g_is_decided (daCons (dVar 1) (daCons (dVar 2) (daCons (dVar 3) daNil)))) [2, 3] [3] finT) daNil)))))
def F_is_ascending (g_are_integers_within : DRs) : DTS := (sSeq (sIf (dtNot (dTest (dCB g_are_integers_within (daCons (dVar 1) (daCons (dC (.int 0)) (daCons (dOp dSub (dVar 0) (dC (.int 1))) daNil)))))) (sRet (dC (.bl false))) sNext) (sRet (dCB dAll (daCons (dLcG (wZip (daCons (dVar 1) (daCons (dSlG finT (dVar 1) (oSome (dC (.int 1))) oNone) daNil))) (gTp 2 (gsCons (gNm 2) (gsCons (gNm 3) gsNil))) dtYes (dOp dLtG (dVar 2) (dVar 3)) [2, 3] finT) daNil))))
def F_is_decided : DTS := (sSeq (sIf (dTest (dOp dEq (dVar 1) (dVar 2))) (sRet (dOp dNotIn (dVar 1) (dOp dIx (dVar 0) (dVar 1)))) sNext) (sRet (dOp dNe (dOp dIn (dVar 2) (dOp dIx (dVar 0) (dVar 1))) (dOp dIn (dVar 1) (dOp dIx (dVar 0) (dVar 2))))))
def F__law_pot : DTS := (sSeq (sSet 2 (dIf (dTest (dOp dLtG (dVar 1) (dCB dLen (daCons (dVar 0) daNil)))) (dOp dIx (dVar 0) (dVar 1)) (dOp dAdd (dOp dMul (dC (.int 17)) (dVar 1)) (dC (.int 3))))) (sSeq (sSet 3 (dIf (dTest (dOp dGe (dCB dAbs (daCons (dVar 2) daNil)) (dOp dPow (dC (.int 10)) (dC (.int 18))))) (dOp dMod (dCB dAbs (daCons (dVar 2) daNil)) (dOp dPow (dOp dPow (dC (.int 10)) (dC (.int 60))) (dC (.int 3)))) (dC (.int 0)))) (sRet (dLstN (daCons (dVar 3) (daCons (dOp dMod (dOp dAdd (dOp dAdd (dOp dMul (dOp dMod (dVar 2) (dC (.int 2305843009213693951))) (dC (.int 69621))) (dOp dMul (dOp dMul (dC (.int 104729)) (dVar 1)) (dVar 1))) (dC (.int 71))) (dC (.int 2305843009213693921))) (daCons (dC (.int 0)) daNil)))))))
def F__law_take : DTS := (sSeq (sIf (dTest (dOp dGt (dOp dIx (dVar 0) (dC (.int 0))) (dC (.int 0)))) (sSeq (sSet 2 (dOp dMod (dOp dIx (dVar 0) (dC (.int 0))) (dVar 1))) (sSeq (sAsg (dOp dDiv (dOp dIx (dVar 0) (dC (.int 0))) (dVar 1)) (gSb (dVar 0) (dC (.int 0)))) (sRet (dVar 2)))) sNext) (sSeq (sAsg (dOp dAdd (dOp dIx (dVar 0) (dC (.int 2))) (dC (.int 1))) (gSb (dVar 0) (dC (.int 2)))) (sSeq (sSet 3 (dOp dIx (dLst (daCons (dC (.int 2147483647)) (daCons (dC (.int 2147483629)) (daCons (dC (.int 2147483587)) (daCons (dC (.int 2147483579)) (daCons (dC (.int 2147483563)) daNil)))))) (dOp dMod (dOp dIx (dVar 0) (dC (.int 2))) (dC (.int 5))))) (sSeq (sSet 4 (dOp dMod (dOp dPow (dOp dAdd (dOp dAdd (dOp dIx (dVar 0) (dC (.int 1))) (dOp dMul (dOp dMul (dC (.int 40009)) (dOp dIx (dVar 0) (dC (.int 2)))) (dOp dIx (dVar 0) (dC (.int 2))))) (dC (.int 31))) (dC (.int 3))) (dVar 3))) (sRet (dOp dMod (dOp dDiv (dOp dMod (dOp dMul (dVar 4) (dOp dAdd (dOp dMod (dVar 4) (dC (.int 10009))) (dOp dMul (dC (.int 89)) (dOp dIx (dVar 0) (dC (.int 2)))))) (dC (.int 2305843009213693907))) (dC (.int 89))) (dVar 1)))))))
def F__law_pick (g__law_take : DRs) : DTS := (sRet (dOp dIx (dVar 1) (dCB g__law_take (daCons (dVar 0) (daCons (dCB dLen (daCons (dVar 1) daNil)) daNil)))))
def F__law_mixed (g__law_take : DRs) : DTS := (sSeq (sPar 2 3 (daCons (dCB dListN (daCons (dVar 1) daNil)) (daCons (dLstN daNil) daNil))) (sSeq (sWhile (dTest (dOp dNe (dVar 2) (dLst daNil))) (sDrop (dMtL mAppend (dVar 3) (daCons (dMtL mPopAt (dVar 2) (daCons (dCB g__law_take (daCons (dVar 0) (daCons (dCB dLen (daCons (dVar 2) daNil)) daNil))) daNil)) daNil)))) (sRet (dVar 3))))
def F__law_line : DTS := (sRet (dCB dTuple (daCons (dLcG (wRng1 (daCons (dVar 0) daNil)) (gNm 2) dtYes (dOp dMod (dOp dAdd (dVar 1) (dVar 2)) (dVar 0)) [2] finT) daNil)))
def F__law_probe (g__law_take : DRs) (g__law_mixed : DRs) (g__law_line : DRs) : DTS := (sSeq (sIf (dTest (dOp dEq (dCB g__law_take (daCons (dVar 0) (daCons (dC (.int 3)) daNil))) (dC (.int 0)))) (sRet (dCB g__law_line (daCons (dVar 1) (daCons (dCB g__law_take (daCons (dVar 0) (daCons (dVar 1) daNil))) daNil)))) sNext) (sRet (dCB dTuple (daCons (dCB g__law_mixed (daCons (dVar 0) (daCons (dLRg1 finT (dVar 1)) daNil))) daNil))))
def F_law (g__law_pot : DRs) (g__law_right : DRs) : DTS := (sRet (dCB dAll (daCons (dLcG (wRng1 (daCons (dCB dMax2 (daCons (dC (.int 1)) (daCons (dCB dMin2 (daCons (dC (.int 3)) (daCons (dCB dLen (daCons (dVar 0) daNil)) daNil))) daNil))) daNil)) (gNm 1) dtYes (dCB g__law_right (daCons (dCB g__law_pot (daCons (dVar 0) (daCons (dVar 1) daNil))) daNil)) [1] finT) daNil)))
def F__law_ordered_table : DTS := (sRet (dCB dTuple (daCons (dLcG (wRng1 (daCons (dCB dLen (daCons (dVar 0) daNil)) daNil)) (gNm 1) dtYes (dCB dTuple (daCons (dCB (dSortI finT) (daCons (dSlG finT (dVar 0) (oSome (dOp dAdd (dIndex (dVar 0) (daCons (dVar 1) daNil)) (dC (.int 1)))) oNone) daNil)) daNil)) [1] finT) daNil)))
def F_is_probe_order (g_is_integer_within : DRs) : DTS := (sSeq (sIf (dtOr (dtNot (dTest (dIsi "tuple" (dVar 1)))) (dTest (dOp dNe (dCB dLen (daCons (dVar 1) daNil)) (dVar 0)))) (sRet (dC (.bl false))) sNext) (sRet (dAndV (dCB dAll (daCons (dLcG (wSeq (dVar 1)) (gNm 2) dtYes (dCB g_is_integer_within (daCons (dVar 2) (daCons (dC (.int 0)) (daCons (dOp dSub (dVar 0) (dC (.int 1))) daNil)))) [2] finT) daNil)) (dOp dEq (dLenSet (dVar 1)) (dVar 0)))))
def F_are_probes (g_is_probe_order : DRs) (g_is_sized : DRs) : DTS := (sSeq (sIf (dtOr (dtNot (dTest (dCB g_is_sized (daCons (dVar 0) daNil)))) (dtNot (dTest (dCB g_is_sized (daCons (dOp dIx (dVar 0) (dC (.int 0))) daNil))))) (sRet (dC (.bl false))) sNext) (sSeq (sSet 1 (dCB dLen (daCons (dOp dIx (dVar 0) (dC (.int 0))) daNil))) (sRet (dCB dAll (daCons (dLcG (wSeq (dVar 0)) (gNm 2) dtYes (dCB g_is_probe_order (daCons (dVar 1) (daCons (dVar 2) daNil))) [2] finT) daNil)))))
end DL
namespace DL
open PySem PySem.Spec PyProof.Rows L2 LamX PySem.W SL
@[simp] theorem at0 {α : Type} {a : α} {xs : List α} : atI (a :: xs) 0 = some a := by unfold atI ixN; simp
@[simp] theorem at1 {α : Type} {a b : α} {xs : List α} : atI (a :: b :: xs) 1 = some b := atI_nat (j := 1) rfl
@[simp] theorem at2 {α : Type} {a b c : α} {xs : List α} : atI (a :: b :: c :: xs) 2 = some c := atI_nat (j := 2) rfl
def setS (o i d : D) (st : DSt) (P : DSt → Prop) : Prop := match o with
  | .ref n => onI i fun k => match st[n]? with
    | some (.lst xs) => onO (ixN xs.length k) fun j => P (st.set n (.lst (xs.set j d)))
    | _ => False
  | _ => False
@[simp] theorem e_gSb {fo fi : DTE} {x : D} {r : DEnv} {st : DSt} {k : DEnv → DSt → Prop} : gSb fo fi x r st k = fo r st fun o st1 => fi r st1 fun i st2 => setS o i x st2 (k r) := rfl
theorem setS_ref {n : Nat} {k : Int} {d : D} {st : DSt} {P : DSt → Prop} {xs : List D} (h : st[n]? = some (.lst xs)) : setS (.ref n) (.int k) d st P = onO (ixN xs.length k) fun j => P (st.set n (.lst (xs.set j d))) := by
  unfold setS
  simp only [e_onI, h]
def PotO (n : Nat) (o : O) : Prop := ∃ g m c : Int, o = .lst [.int g, .int m, .int c] ∧ 0 ≤ g ∧ g < 10 ^ 400 ∧ 0 ≤ m ∧ m < 2 ^ 61 ∧ 0 ≤ c ∧ c + n ≤ 1000000
theorem PotO.less {n m : Nat} {o : O} (h : PotO n o) (l : m ≤ n) : PotO m o := by
  obtain ⟨g, a, c, h1, h2, h3, h4, h5, h6, h7⟩ := h
  exact ⟨g, a, c, h1, h2, h3, h4, h5, h6, by omega⟩
def Pot (n : Nat) (p : Nat) (st : DSt) : Prop := ∃ o, st[p]? = some o ∧ PotO n o
theorem Pot.less {n m p : Nat} {st : DSt} (h : Pot n p st) (l : m ≤ n) : Pot m p st := by
  obtain ⟨o, e, h⟩ := h
  exact ⟨o, e, h.less l⟩
theorem Pot.lt {n p : Nat} {st : DSt} (h : Pot n p st) : p < st.length := by
  obtain ⟨o, e, h⟩ := h
  exact (List.getElem?_eq_some_iff.mp e).1
theorem Pot.set {n p : Nat} {st : DSt} {o : O} (lt : p < st.length) (h : PotO n o) : Pot n p (st.set p o) := ⟨o, List.getElem?_set_self lt, h⟩
theorem Pot.app {n p : Nat} {st : DSt} {os : List O} (h : Pot n p st) : Pot n p (st ++ os) := by
  obtain ⟨o, e, h⟩ := h
  exact ⟨o, by rw [List.getElem?_append_left (List.getElem?_eq_some_iff.mp e).1]; exact e, h⟩
def g_take : DRs := fun ds st Q => ∃ (p : Nat) (z : Int) (n : Nat), ds = [.ref p, .int z] ∧ Pot (n + 1) p st ∧ 0 < z ∧ z ≤ 1000 ∧ ∀ (r : Int) (o : O), 0 ≤ r → r < z → PotO n o → Q (.int r) (st.set p o)
theorem sem_take (ds : List D) (st : DSt) (Q : DK) (h : g_take ds st Q) : F__law_take { nx := fun _ st' => Rt st Q .non st', rt := Rt st Q } (startD 5 ds) st := by
  obtain ⟨p, z, n, rfl, ⟨o, e, g, m, c, rfl, g0, g1, m0, m1, c0, c1⟩, z0, z1, q⟩ := h
  have lt : p < st.length := (List.getElem?_eq_some_iff.mp e).1
  have sq := seq_ref e
  have st5 : startD 5 [D.ref p, D.int z] = [some (.ref p), some (.int z), none, none, none] := rfl
  by_cases gp : 0 < g
  · simp [F__law_take, st5, sq, gp, setS_ref e, ixN, CDiv, z0]
    refine ⟨by omega, .inl (q _ _ (Int.emod_nonneg _ (by omega)) (Int.emod_lt_of_pos _ z0) ⟨_, _, _, rfl, Int.ediv_nonneg g0 (by omega), ?_, m0, m1, c0, by omega⟩)⟩
    exact Int.lt_of_le_of_lt (Int.ediv_le_self z g0) g1
  · have e2 : (st.set p (.lst [.int g, .int m, .int (c + 1)]))[p]? = some (.lst [.int g, .int m, .int (c + 1)]) := List.getElem?_set_self lt
    have sq2 := seq_ref e2
    simp [F__law_take, st5, sq, gp, setS_ref e, ixN, sq2]
    have r0 : 0 ≤ (c + 1) % 5 := Int.emod_nonneg _ (by decide)
    have r1 : (c + 1) % 5 < 5 := Int.emod_lt_of_pos _ (by decide)
    obtain ⟨pr, hpr, p0, p1⟩ : ∃ pr : Int, atI [D.int 2147483647, .int 2147483629, .int 2147483587, .int 2147483579, .int 2147483563] ((c + 1) % 5) = some (.int pr) ∧ 0 < pr ∧ pr ≤ 2147483647 := by
      have cs : (c + 1) % 5 = 0 ∨ (c + 1) % 5 = 1 ∨ (c + 1) % 5 = 2 ∨ (c + 1) % 5 = 3 ∨ (c + 1) % 5 = 4 := by omega
      rcases cs with e | e | e | e | e <;> rw [e]
      · exact ⟨2147483647, atI_nat (j := 0) rfl, by decide, by decide⟩
      · exact ⟨2147483629, atI_nat (j := 1) rfl, by decide, by decide⟩
      · exact ⟨2147483587, atI_nat (j := 2) rfl, by decide, by decide⟩
      · exact ⟨2147483579, atI_nat (j := 3) rfl, by decide, by decide⟩
      · exact ⟨2147483563, atI_nat (j := 4) rfl, by decide, by decide⟩
    rw [hpr]
    have b1 : 40009 * (c + 1) ≤ 40009 * 1000000 := by omega
    have b2 : 0 ≤ 40009 * (c + 1) := by omega
    have b3 : 0 ≤ 40009 * (c + 1) * (c + 1) := Int.mul_nonneg b2 (by omega)
    have b4 : 40009 * (c + 1) * (c + 1) ≤ (40009 * 1000000) * 1000000 := Int.mul_le_mul b1 (by omega) (by omega) (by decide)
    have ib : Builtin.Int.intBits (m + 40009 * (c + 1) * (c + 1) + 31) ≤ 64 := intBits_le_64 (by omega) (by omega)
    simp only [e_onO, e_onI]
    refine ⟨.inl ⟨by decide, by decide⟩, .inl ⟨by omega, by omega⟩, by omega, p0, .inl ⟨by decide, by decide⟩, ?_⟩
    generalize (m + 40009 * (c + 1) * (c + 1) + 31) ^ 3 = y
    have y0 : 0 ≤ y % pr := Int.emod_nonneg _ (by omega)
    have y1 : y % pr < pr := Int.emod_lt_of_pos _ p0
    refine ⟨.inl ⟨by omega, by omega⟩, ⟨by decide, by decide⟩, z0, .inl (q _ _ (Int.emod_nonneg _ (by omega)) (Int.emod_lt_of_pos _ z0) ⟨_, _, _, rfl, g0, g1, m0, m1, by omega, by omega⟩)⟩
theorem ar_take (ds : List D) (st : DSt) (Q : DK) (h : g_take ds st Q) : ds.length = 2 := by
  obtain ⟨p, z, n, rfl, _⟩ := h
  rfl
def g_pot : DRs := fun ds st Q => ∃ (ns : List Int) (x : D) (k : Nat), ds = [x, .int k] ∧ Scr ns x ∧ k ≤ 3 ∧ ∀ o, PotO 1000000 o → Q (.ref st.length) (st ++ [o])
theorem ar_pot (ds : List D) (st : DSt) (Q : DK) (h : g_pot ds st Q) : ds.length = 2 := by
  obtain ⟨ns, x, k, rfl, _⟩ := h
  rfl
theorem sem_pot (ds : List D) (st : DSt) (Q : DK) (h : g_pot ds st Q) : F__law_pot { nx := fun _ st' => Rt st Q .non st', rt := Rt st Q } (startD 4 ds) st := by
  obtain ⟨ns, x, k, rfl, hx, k3, q⟩ := h
  have sq := hx.seq
  have st4 : startD 4 [x, D.int (k : Nat)] = [some x, some (.int k), none, none] := rfl
  have e60 : (10 : Int) ^ 60 = 1000000000000000000000000000000000000000000000000000000000000 := by decide +kernel
  have ib1 : Builtin.Int.intBits 10 ≤ 64 := intBits_le_64 (by decide) (by decide)
  have ib60 : Builtin.Int.intBits (10 ^ 60) * 3 ≤ 2 ^ 27 := by decide +kernel
  have fin : ∀ (v : Int) (g : Int), 0 ≤ g → g < 10 ^ 400 → CMul (v % 2305843009213693951) 69621 ∧ CMul 104729 (k : Int) ∧ CMul (104729 * (k : Int)) k ∧ Rt st Q (.ref st.length) (st ++ [.lst [.int g, .int ((v % 2305843009213693951 * 69621 + 104729 * (k : Int) * (k : Int) + 71) % 2305843009213693921), .int 0]]) := fun v g g0 g1 => by
    have a0 : 0 ≤ v % 2305843009213693951 := Int.emod_nonneg _ (by decide)
    have a1 : v % 2305843009213693951 < 2305843009213693951 := Int.emod_lt_of_pos _ (by decide)
    refine ⟨.inl ⟨by omega, by omega⟩, .inl ⟨by decide, by decide⟩, .inl ⟨by omega, by omega⟩, .inl (q _ ⟨g, _, 0, rfl, g0, g1, Int.emod_nonneg _ (by decide), Int.lt_trans (Int.emod_lt_of_pos _ (by decide)) (by decide), by decide, by decide⟩)⟩
  by_cases lt : k < ns.length
  · have ha : atI (ns.map D.int) (k : Int) = some (.int ns[k]) := atI_nat (by rw [List.getElem?_map, List.getElem?_eq_getElem lt]; rfl)
    simp [F__law_pot, st4, lt, ha, sq]
    refine ⟨by omega, ?_⟩
    generalize (if ns[k] < 0 then -ns[k] else ns[k]) = w
    split
    · refine ⟨by omega, by decide +kernel, ?_⟩
      exact fin _ _ (Int.emod_nonneg _ (by decide)) (Int.lt_of_lt_of_le (Int.emod_lt_of_pos _ (by decide)) (by decide +kernel))
    · exact fin _ 0 (by decide) (by decide +kernel)
  · simp [F__law_pot, st4, lt, sq]
    refine ⟨.inl ⟨by decide, by decide⟩, by omega, ?_⟩
    generalize (if 17 * (k : Int) + 3 < 0 then -(17 * (k : Int) + 3) else 17 * (k : Int) + 3) = w
    split
    · refine ⟨by omega, by decide +kernel, ?_⟩
      exact fin _ _ (Int.emod_nonneg _ (by decide)) (Int.lt_of_lt_of_le (Int.emod_lt_of_pos _ (by decide)) (by decide +kernel))
    · exact fin _ 0 (by decide) (by decide +kernel)
theorem seqS_set {st : DSt} {p : Nat} {o : O} {x : D} (h : x ≠ .ref p) : seqS (st.set p o) x = seqS st x := by
  cases x with
  | ref n =>
    have ne : n ≠ p := fun e => h (by rw [e])
    unfold seqS
    simp only [List.getElem?_set_ne (fun e => ne e.symm)]
  | _ => rfl
theorem PotO.lst {n : Nat} {o : O} (h : PotO n o) : ∃ xs, o = .lst xs := by
  obtain ⟨g, m, c, e, _⟩ := h
  exact ⟨_, e⟩
def g_pick : DRs := fun ds st Q => ∃ (p : Nat) (x : D) (xs : List D) (n : Nat), ds = [.ref p, x] ∧ x ≠ .ref p ∧ seqS st x = some xs ∧ xs ≠ [] ∧ xs.length ≤ 1000 ∧ Pot (n + 1) p st ∧ ∀ (d : D) (o : O), d ∈ xs → PotO n o → Q d (st.set p o)
theorem ar_pick (ds : List D) (st : DSt) (Q : DK) (h : g_pick ds st Q) : ds.length = 2 := by
  obtain ⟨ns, x, xs, k, rfl, _⟩ := h
  rfl
theorem sem_pick (ds : List D) (st : DSt) (Q : DK) (h : g_pick ds st Q) : F__law_pick g_take { nx := fun _ st' => Rt st Q .non st', rt := Rt st Q } (startD 2 ds) st := by
  obtain ⟨p, x, xs, n, rfl, ne, sq, nn, l, pot, q⟩ := h
  have st2 : startD 2 [D.ref p, x] = [some (.ref p), some x] := rfl
  have l0 : 0 < xs.length := List.length_pos_iff.mpr nn
  simp [F__law_pick, st2, sq]
  refine ⟨p, _, n, rfl, pot, by omega, by omega, fun r o r0 r1 po => ?_⟩
  show onO (seqS (st.set p o) x) _
  rw [seqS_set ne, sq]
  have lt : r.toNat < xs.length := by omega
  have ha : atI xs r = some xs[r.toNat] := by
    have z := atI_nat (xs := xs) (j := r.toNat) (v := xs[r.toNat]) (List.getElem?_eq_getElem lt)
    rw [Int.toNat_of_nonneg r0] at z
    exact z
  simp only [e_onO, e_onI, ha]
  exact .inl (q _ o (List.getElem_mem lt) po)
def lineI (n : Nat) (b : Int) : List Int := (List.range n).map fun i : Nat => (b + (i : Int)) % (n : Int)
def g_line : DRs := fun ds st Q => ∃ (n : Nat) (b : Int), ds = [.int n, .int b] ∧ 0 < n ∧ n ≤ 1000 ∧ Q (.tup ((lineI n b).map D.int)) st
theorem ar_line (ds : List D) (st : DSt) (Q : DK) (h : g_line ds st Q) : ds.length = 2 := by
  obtain ⟨n, b, rfl, _⟩ := h
  rfl
theorem sem_line (ds : List D) (st : DSt) (Q : DK) (h : g_line ds st Q) : F__law_line { nx := fun _ st' => Rt st Q .non st', rt := Rt st Q } (startD 3 ds) st := by
  obtain ⟨n, b, rfl, n0, n1, q⟩ := h
  have st3 : startD 3 [D.int (n : Int), D.int b] = [some (.int n), some (.int b), none] := rfl
  simp [F__law_line, st3, rgD_length]
  refine ⟨by omega, Nat.le_of_lt (small1000 n1), lc_rng (fun k => .int ((b + (k : Int)) % (n : Int))) (fun k lt Q' q' => ?_) ?_⟩
  · simp
    exact ⟨n0, q'⟩
  · simp
    refine .inl ?_
    unfold lineI at q
    rw [List.map_map] at q
    exact q
theorem take_same {st st1 : DSt} {junk : List O} (l : st1.length = st.length) : (st1 ++ junk).take st.length = st1 := by
  rw [← l]
  simp
theorem cloS_app {st st1 : DSt} {junk : List O} (l : st1.length = st.length) (cs : ∀ (i : Nat) (o : O), st1[i]? = some o → st[i]? = some o ∨ cloO st.length o = true) : cloS st st.length (st1 ++ junk) := fun i o lt e => by
  rw [List.getElem?_append_left (by omega)] at e
  exact cs i o e
theorem rt_drop {st st1 : DSt} {junk : List O} {d : D} {Q : DK} (l : st1.length = st.length) (c : clo st.length d = true) (cs : ∀ (i : Nat) (o : O), st1[i]? = some o → st[i]? = some o ∨ cloO st.length o = true) (q : Q d st1) : Rt st Q d (st1 ++ junk) :=
  .inr (.inl ⟨st.length, Nat.le_refl _, by rw [List.length_append]; omega, c, cloS_app l cs, by rw [take_same l]; exact q⟩)
theorem rt_list {st st1 : DSt} {junk : List O} {n : Nat} {ds : List D} {Q : DK} (l : st1.length = st.length) (le : st.length ≤ n) (e : (st1 ++ junk)[n]? = some (.lst ds)) (c : clos st.length ds = true) (cs : ∀ (i : Nat) (o : O), st1[i]? = some o → st[i]? = some o ∨ cloO st.length o = true) (q : Q (.lst ds) st1) : Rt st Q (.ref n) (st1 ++ junk) :=
  .inr (.inr ⟨st.length, .lst ds, Nat.le_refl _, by rw [List.length_append]; omega, .own le e (.same c), cloS_app l cs, by rw [take_same l]; exact q⟩)
theorem clos_ints (n : Nat) : ∀ ns : List Int, clos n (ns.map D.int) = true
  | [] => by simp [clos]
  | i :: ns => by
    rw [List.map_cons]
    simp only [clos, clo, Bool.true_and]
    exact clos_ints n ns
theorem PotO.clo {n m : Nat} {o : O} (h : PotO n o) : cloO m o = true := by
  obtain ⟨g, a, c, rfl, _⟩ := h
  simp [cloO, clos, DL.clo]
theorem cs_set {st : DSt} {p n m : Nat} {o : O} (h : PotO n o) : ∀ (i : Nat) (u : O), (st.set p o)[i]? = some u → st[i]? = some u ∨ cloO m u = true := fun i u e => by
  by_cases z : i = p
  · subst z
    have lt : i < st.length := by
      have := (List.getElem?_eq_some_iff.mp e).1
      rw [List.length_set] at this
      exact this
    rw [List.getElem?_set_self lt] at e
    cases e
    exact .inr h.clo
  · rw [List.getElem?_set_ne (fun w => z w.symm)] at e
    exact .inl e
mutual
theorem pdT_clo {n : Nat} : ∀ {d : D} {p : PyData}, pdT d = some p → clo n d = true
  | .non, _, e => by simp [clo]
  | .bl b, _, e => by simp [clo]
  | .int b, _, e => by simp [clo]
  | .str b, _, e => by simp [clo]
  | .tup ds, _, e => by
    simp only [pdT, Option.map_eq_some_iff] at e
    obtain ⟨ps, e, rfl⟩ := e
    simp only [clo]
    exact pdTs_clo e
  | .tuk ds, _, e => by
    simp only [pdT, Option.map_eq_some_iff] at e
    obtain ⟨ps, e, rfl⟩ := e
    simp only [clo]
    exact pdTs_clo e
  | .lst ds, _, e => by
    simp only [pdT, Option.map_eq_some_iff] at e
    obtain ⟨ps, e, rfl⟩ := e
    simp only [clo]
    exact pdTs_clo e
  | .scr ds, _, e => by
    simp only [pdT, Option.map_eq_some_iff] at e
    obtain ⟨ps, e, rfl⟩ := e
    simp only [clo]
    exact pdTs_clo e
  | .ref n, _, e => by simp [pdT] at e
theorem pdTs_clo {n : Nat} : ∀ {d : List D} {p : List PyData}, pdTs d = some p → clos n d = true
  | [], _, e => by simp [clos]
  | d :: ds, _, e => by
    unfold pdTs at e
    cases q : pdT d with
    | none => rw [q] at e; cases e
    | some y =>
      rw [q] at e
      simp only [Option.map_eq_some_iff] at e
      obtain ⟨ps, e, rfl⟩ := e
      simp only [clos, pdT_clo q, pdTs_clo e, Bool.and_self]
end
theorem sm_clos {k c n : Nat} {ds : List D} (h : ∀ d ∈ ds, Sm k c d) : clos n ds = true := by
  obtain ⟨ps, e, _⟩ := sm_all h
  exact pdTs_clo e
theorem Sm.clo {k c n : Nat} {d : D} (h : Sm k c d) : DL.clo n d = true := by
  obtain ⟨p, e, _⟩ := h
  exact pdT_clo e
theorem ne_nil {st : DSt} {n k c : Nat} {xs : List D} {Q : DK} (e : st[n]? = some (.lst xs)) (sm : ∀ d ∈ xs, Sm k c d) (hk : k ≤ 40) (q : Q (.bl (!xs.isEmpty)) st) : dEqG true (.ref n) (.lst []) st Q := by
  obtain ⟨ps, e1, el, l⟩ := sm_all sm
  have p1 : pdS st (.ref n) = some (.list ps) := by unfold pdS; simp only [e, e1]; rfl
  have p2 : pdS st (.lst []) = some (.list []) := by simp [pdS, pdT, pdTs]
  show dEqD true (.ref n) (.lst []) st Q
  unfold dEqD
  rw [p1, p2]
  refine ⟨⟨Sm.shaped (el_list (m := ps.length) el (Nat.le_refl _)) (by omega), by decide +kernel⟩, ?_⟩
  have ee : PyData.eqv (.list ps) (.list []) = ps.isEmpty := by cases ps <;> simp [PyData.eqv, PyData.eqvAll]
  have e3 : ps.isEmpty = xs.isEmpty := by
    cases ps <;> cases xs <;> simp at l ⊢
  show Q (.bl (!PyData.eqv (.list ps) (.list []))) st
  rw [ee, e3]
  exact q
def g_mixed : DRs := fun ds st Q => ∃ (p : Nat) (x : D) (xs : List D) (n : Nat), ds = [.ref p, x] ∧ seqS st x = some xs ∧ x ≠ .ref p ∧ xs.length ≤ 900 ∧ (∀ d ∈ xs, Sm 30 100000 d) ∧ Pot (n + xs.length) p st ∧ ∀ (ys : List D) (o : O), ys.Perm xs → PotO n o → Q (.lst ys) (st.set p o)
theorem ar_mixed (ds : List D) (st : DSt) (Q : DK) (h : g_mixed ds st Q) : ds.length = 2 := by
  obtain ⟨ns, x, xs, k, rfl, _⟩ := h
  rfl
theorem take_outD {α : Type} : ∀ (l : List α) (i : Nat) (h : i < l.length), (l[i] :: l.eraseIdx i).Perm l
  | a :: l, 0, _ => List.Perm.refl _
  | a :: l, i + 1, h => by
    have z := take_outD l i (by simpa using h)
    exact (List.Perm.swap _ _ _).trans (List.Perm.cons a z)
theorem pop_ref {st : DSt} {n : Nat} {xs : List D} {i : Int} {Q : DK} (e : st[n]? = some (.lst xs)) (i0 : 0 ≤ i) (lt : i.toNat < xs.length) (few : xs.length ≤ 1000) (q : Q xs[i.toNat] (st.set n (.lst (xs.eraseIdx i.toNat)))) : mPopAt (.ref n) [.int i] st Q := by
  unfold mPopAt
  simp only [e_on1, e_onI, onL, e]
  refine ⟨⟨by omega, by omega⟩, ?_⟩
  have z : seqIndex? i xs.length = some i.toNat := seqIndex_of i0 (by omega)
  rw [z]
  show onO xs[i.toNat]? _
  rw [List.getElem?_eq_getElem lt]
  exact q
theorem append_ref {st : DSt} {n : Nat} {xs : List D} {y : D} {Q : DK} (e : st[n]? = some (.lst xs)) (lt : xs.length < sizeLine) (q : Q .non (st.set n (.lst (xs ++ [y])))) : mAppend (.ref n) [y] st Q := by
  unfold mAppend
  simp only [e_on1, onL, e]
  exact ⟨lt, q⟩
theorem sem_mixed (ds : List D) (st : DSt) (Q : DK) (h : g_mixed ds st Q) : F__law_mixed g_take { nx := fun _ st' => Rt st Q .non st', rt := Rt st Q } (startD 4 ds) st := by
  obtain ⟨p, x, xs, n, rfl, sq, ne, l, sm, ⟨o, e, po⟩, q⟩ := h
  have lt : p < st.length := (List.getElem?_eq_some_iff.mp e).1
  have st4 : startD 4 [D.ref p, x] = [some (.ref p), some x, none, none] := rfl
  simp [F__law_mixed, st4, sq]
  refine s_while (fun m r st' => ∃ (left found : List D) (o : O), r = [some (.ref p), some x, some (.ref st.length), some (.ref (st.length + 1))] ∧ st' = st.set p o ++ [.lst left, .lst found] ∧ PotO (n + left.length) o ∧ (found ++ left).Perm xs ∧ m = left.length) xs.length ⟨xs, [], o, rfl, ?_, po, by simp, rfl⟩ ?_
  · have z : st.set p o = st := by
      refine List.ext_getElem? fun i => ?_
      by_cases w : i = p
      · subst w; rw [List.getElem?_set_self lt, e]
      · rw [List.getElem?_set_ne (fun w' => w w'.symm)]
    rw [z]
  · rintro m r st' N hN ⟨left, found, o, rfl, rfl, po, pm, rfl⟩
    have ll : (st.set p o).length = st.length := List.length_set
    have ea : (st.set p o ++ [O.lst left, .lst found])[st.length]? = some (.lst left) := by rw [List.getElem?_append_right (by omega), ll]; simp
    have eb : (st.set p o ++ [O.lst left, .lst found])[st.length + 1]? = some (.lst found) := by rw [List.getElem?_append_right (by omega), ll]; simp
    have sml : ∀ d ∈ left, Sm 30 100000 d := fun d hd => sm d (pm.mem_iff.mp (List.mem_append_right _ hd))
    have smf : ∀ d ∈ found, Sm 30 100000 d := fun d hd => sm d (pm.mem_iff.mp (List.mem_append_left _ hd))
    simp
    refine ne_nil ea sml (by decide) ?_
    cases left with
    | nil =>
      simp
      refine rt_list ll (by omega) eb (sm_clos smf) (cs_set po) (q found o ?_ po)
      simpa using pm
    | cons z rest =>
      simp [LstD, ea, eb, seq_ref ea]
      have lxs := pm.length_eq
      rw [List.length_append, List.length_cons] at lxs
      refine ⟨p, _, n + rest.length, rfl, ⟨o, by rw [List.getElem?_append_left (by omega), List.getElem?_set_self lt], po⟩, by omega, by omega, fun r o' r0 r1 po' => ?_⟩
      have e2 : (st.set p o ++ [O.lst (z :: rest), .lst found]).set p o' = st.set p o' ++ [O.lst (z :: rest), .lst found] := by rw [List.set_append_left _ _ (by omega), List.set_set]
      have ll' : (st.set p o').length = st.length := List.length_set
      have ea' : (st.set p o' ++ [O.lst (z :: rest), .lst found])[st.length]? = some (.lst (z :: rest)) := by rw [List.getElem?_append_right (by omega), ll']; simp
      have hr : r.toNat < (z :: rest).length := by rw [List.length_cons]; omega
      rw [e2]
      refine pop_ref ea' r0 hr (by rw [List.length_cons]; omega) ?_
      have e3 : (st.set p o' ++ [O.lst (z :: rest), .lst found]).set st.length (.lst ((z :: rest).eraseIdx r.toNat)) = st.set p o' ++ [.lst ((z :: rest).eraseIdx r.toNat), .lst found] := by
        rw [List.set_append_right _ _ (by omega), ll', Nat.sub_self]
        rfl
      rw [e3]
      have eb' : (st.set p o' ++ [O.lst ((z :: rest).eraseIdx r.toNat), .lst found])[st.length + 1]? = some (.lst found) := by rw [List.getElem?_append_right (by omega), ll']; simp
      refine append_ref eb' (small1000 (by omega)) ?_
      have e4 : (st.set p o' ++ [O.lst ((z :: rest).eraseIdx r.toNat), .lst found]).set (st.length + 1) (.lst (found ++ [(z :: rest)[r.toNat]])) = st.set p o' ++ [.lst ((z :: rest).eraseIdx r.toNat), .lst (found ++ [(z :: rest)[r.toNat]])] := by
        rw [List.set_append_right _ _ (by omega), ll', show st.length + 1 - st.length = 1 by omega]
        rfl
      rw [e4]
      have le : ((z :: rest).eraseIdx r.toNat).length = rest.length := by
        rw [List.length_eraseIdx_of_lt hr, List.length_cons]
        omega
      refine hN rest.length _ _ (by simp) (.inl ⟨_, _, o', rfl, rfl, by rw [le]; exact po', ?_, le.symm⟩)
      refine List.Perm.trans ?_ pm
      rw [List.append_assoc]
      exact List.Perm.append_left found (take_outD _ _ hr)
end DL
local macro_rules
  | `(tactic| exists 4) => `(tactic| try simp only [DL.e_var, DL.e_C, DL.e_op, DL.e_neg, DL.e_isN, DL.e_notN, DL.e_and, DL.e_or, DL.e_not, DL.e_test, DL.e_tAnd, DL.e_tOr, DL.e_tNot, DL.e_tYes, DL.e_if, DL.e_aNil, DL.e_aCons, DL.e_tup, DL.e_lst, DL.e_lstN, DL.e_len0, DL.e_len1, DL.e_len2, DL.e_len3, DL.e_len4, DL.e_len5, DL.e_cb, DL.e_on1, DL.e_on2, DL.e_onI, DL.e_onB, DL.e_onO, DL.e_onO0, DL.e_onOO, DL.e_I0, DL.e_I, DL.e_add, DL.e_addT, DL.e_addS, DL.e_addL, DL.e_addLR, DL.e_addRL, DL.e_addRR, DL.e_mul, DL.e_mulL, DL.e_mulT, DL.e_rev, DL.e_revT, DL.e_ix, DL.e_eqI, DL.e_eqS, DL.e_eqB, DL.e_neI, DL.e_neS, DL.e_neB, DL.e_ltI, DL.e_chain, DL.e_len, DL.e_abs, DL.e_2I, DL.e_tuple1, DL.e_tuple2, DL.e_tuple3, DL.e_listT, DL.e_listN, DL.e_allR, DL.e_seqT, DL.e_seqK, DL.e_seqL, DL.e_isi, DL.e_isB, DL.e_notB, DL.e_truth, DL.e_next, DL.e_drop, DL.e_ret, DL.e_retN, DL.e_ifS, DL.e_set, DL.e_asg, DL.e_par, DL.e_nm, DL.e_gsN, DL.e_gsC, DL.e_gTpK, DL.e_gTpL, DL.e_sum, DL.e_maxL, DL.e_minL, DL.e_maxDef, DL.e_int, DL.e_intB, DL.e_aug, DL.e_on3, DL.e_par3, DL.e_newK, DL.e_getK, DL.e_keyI, DL.e_keyS, DL.e_inK, DL.e_ninK, DL.e_putK, DL.e_lenK, DL.e_lstS, DL.e_seqX, DL.e_gTpT, DL.e_oN, DL.e_oS, DL.e_sl, DL.e_slT, DL.e_slL, DL.e_finT, DL.e_finN, DL.e_index, DL.e_idxT, DL.e_idxL, DL.e_mIx, DL.e_ixST, DL.e_ixSL, DL.e_mtL, DL.e_w, DL.e_w1, DL.e_w2, DL.e_wE, DL.e_wZ, DL.e_itK, DL.e_itT, DL.e_itL, DL.e_itT2, DL.e_itL2, DL.e_lc, DL.e_for, DL.e_wipe0, DL.e_wipe, DL.e_okI, DL.e_okR, DL.e_gSb, List.getElem?_cons_zero, List.getElem?_cons_succ, List.set_cons_zero, List.set_cons_succ])
  | `(tactic| exists 4, $es,*) => `(tactic| try simp only [DL.e_var, DL.e_C, DL.e_op, DL.e_neg, DL.e_isN, DL.e_notN, DL.e_and, DL.e_or, DL.e_not, DL.e_test, DL.e_tAnd, DL.e_tOr, DL.e_tNot, DL.e_tYes, DL.e_if, DL.e_aNil, DL.e_aCons, DL.e_tup, DL.e_lst, DL.e_lstN, DL.e_len0, DL.e_len1, DL.e_len2, DL.e_len3, DL.e_len4, DL.e_len5, DL.e_cb, DL.e_on1, DL.e_on2, DL.e_onI, DL.e_onB, DL.e_onO, DL.e_onO0, DL.e_onOO, DL.e_I0, DL.e_I, DL.e_add, DL.e_addT, DL.e_addS, DL.e_addL, DL.e_addLR, DL.e_addRL, DL.e_addRR, DL.e_mul, DL.e_mulL, DL.e_mulT, DL.e_rev, DL.e_revT, DL.e_ix, DL.e_eqI, DL.e_eqS, DL.e_eqB, DL.e_neI, DL.e_neS, DL.e_neB, DL.e_ltI, DL.e_chain, DL.e_len, DL.e_abs, DL.e_2I, DL.e_tuple1, DL.e_tuple2, DL.e_tuple3, DL.e_listT, DL.e_listN, DL.e_allR, DL.e_seqT, DL.e_seqK, DL.e_seqL, DL.e_isi, DL.e_isB, DL.e_notB, DL.e_truth, DL.e_next, DL.e_drop, DL.e_ret, DL.e_retN, DL.e_ifS, DL.e_set, DL.e_asg, DL.e_par, DL.e_nm, DL.e_gsN, DL.e_gsC, DL.e_gTpK, DL.e_gTpL, DL.e_sum, DL.e_maxL, DL.e_minL, DL.e_maxDef, DL.e_int, DL.e_intB, DL.e_aug, DL.e_on3, DL.e_par3, DL.e_newK, DL.e_getK, DL.e_keyI, DL.e_keyS, DL.e_inK, DL.e_ninK, DL.e_putK, DL.e_lenK, DL.e_lstS, DL.e_seqX, DL.e_gTpT, DL.e_oN, DL.e_oS, DL.e_sl, DL.e_slT, DL.e_slL, DL.e_finT, DL.e_finN, DL.e_index, DL.e_idxT, DL.e_idxL, DL.e_mIx, DL.e_ixST, DL.e_ixSL, DL.e_mtL, DL.e_w, DL.e_w1, DL.e_w2, DL.e_wE, DL.e_wZ, DL.e_itK, DL.e_itT, DL.e_itL, DL.e_itT2, DL.e_itL2, DL.e_lc, DL.e_for, DL.e_wipe0, DL.e_wipe, DL.e_okI, DL.e_okR, DL.e_gSb, List.getElem?_cons_zero, List.getElem?_cons_succ, List.set_cons_zero, List.set_cons_succ, $[$es:term],*])
namespace DL
open PySem PySem.Spec PyProof.Rows L2 LamX PySem.W SL
theorem tyN_tree {st : DSt} {d : D} (h : clo 0 d = true) : ∃ t, tyN st d = some t := by
  cases d with
  | ref n => simp [clo] at h
  | _ => exact ⟨_, rfl⟩
theorem clos_mem {n : Nat} : ∀ {ds : List D}, clos n ds = true → ∀ d ∈ ds, clo n d = true
  | [], _, d, hd => by cases hd
  | x :: xs, h, d, hd => by
    simp only [clos, Bool.and_eq_true] at h
    rcases List.mem_cons.mp hd with z | z
    · rw [z]; exact h.1
    · exact clos_mem h.2 d z
def inR (lo hi : Int) : D → Bool
  | .int i => decide (lo ≤ i) && decide (i ≤ hi)
  | _ => false
def g_within : DRs := fun ds st Q => ∃ (d : D) (lo hi : Int), ds = [d, .int lo, .int hi] ∧ (∃ t, tyN st d = some t) ∧ Q (.bl (inR lo hi d)) st
theorem ar_within (ds : List D) (st : DSt) (Q : DK) (h : g_within ds st Q) : ds.length = 3 := by
  obtain ⟨d, lo, hi, rfl, _⟩ := h
  rfl
theorem sem_within (ds : List D) (st : DSt) (Q : DK) (h : g_within ds st Q) : F_is_integer_within { nx := fun _ st' => Rt st Q .non st', rt := Rt st Q } (startD 3 ds) st := by
  obtain ⟨d, lo, hi, rfl, ⟨t, ty⟩, q⟩ := h
  have st3 : startD 3 [d, D.int lo, D.int hi] = [some d, some (.int lo), some (.int hi)] := rfl
  cases d with
  | int i =>
    simp [F_is_integer_within, st3, tyN, subTy]
    unfold inR at q
    by_cases h1 : lo ≤ i
    · simp [h1] at q ⊢; exact .inl q
    · simp [h1] at q ⊢; exact .inl q
  | ref n =>
    have ne : t = "list" ∨ t = "dict" := by
      unfold tyN at ty
      simp only at ty
      split at ty <;> cases ty <;> simp
    simp [F_is_integer_within, st3, ty]
    rcases ne with rfl | rfl
    · exact .inl q
    · exact .inl q
  | bl b => simp [F_is_integer_within, st3, tyN, subTy]; exact .inl q
  | non => simp [F_is_integer_within, st3, tyN, subTy]; exact .inl q
  | str x => simp [F_is_integer_within, st3, tyN, subTy]; exact .inl q
  | tup xs => simp [F_is_integer_within, st3, tyN, subTy]; exact .inl q
  | tuk xs => simp [F_is_integer_within, st3, tyN, subTy]; exact .inl q
  | lst xs => simp [F_is_integer_within, st3, tyN, subTy]; exact .inl q
  | scr xs => simp [F_is_integer_within, st3, tyN, subTy]; exact .inl q
def allIn (lo hi : Int) : D → Bool
  | .tup xs => xs.all (inR lo hi)
  | _ => false
def NoK : D → Prop
  | .tuk _ => False
  | _ => True
def g_allIn : DRs := fun ds st Q => ∃ (d : D) (lo hi : Int), ds = [d, .int lo, .int hi] ∧ clo 0 d = true ∧ NoK d ∧ (∀ xs, d = .tup xs → xs.length ≤ sizeLine) ∧ Q (.bl (allIn lo hi d)) st
theorem ar_allIn (ds : List D) (st : DSt) (Q : DK) (h : g_allIn ds st Q) : ds.length = 3 := by
  obtain ⟨d, lo, hi, rfl, _⟩ := h
  rfl
theorem all_map_id {α : Type} (p : α → Bool) (xs : List α) : (xs.map p).all id = xs.all p := by rw [List.all_map]; rfl
theorem all_end {α : Type} {xs : List α} {p : α → Bool} {Q : DK} {st : DSt} (q : Q (.bl (xs.all p)) st) : finT (fun d st1 => dAllR (fun bs => bs.all id) [d] st1 Q) (xs.map fun x => D.bl (p x)) st := by
  simp only [e_finT, e_allR, boolsD_map, e_onO]
  rw [all_map_id]
  exact q
theorem tuple_end {Q : DK} {xs : List D} {st : DSt} (q : Q (.tup xs) st) : finT (fun d st1 => dTuple [d] st1 Q) xs st := q
theorem sem_allIn (ds : List D) (st : DSt) (Q : DK) (h : g_allIn ds st Q) : F_are_integers_within g_within { nx := fun _ st' => Rt st Q .non st', rt := Rt st Q } (startD 4 ds) st := by
  obtain ⟨d, lo, hi, rfl, tr, nk, few, q⟩ := h
  have st4 : startD 4 [d, D.int lo, D.int hi] = [some d, some (.int lo), some (.int hi), none] := rfl
  cases d with
  | tup xs =>
    simp [F_are_integers_within, st4, tyN, subTy]
    refine ⟨few xs rfl, lc_map (fun x => .bl (inR lo hi x)) (fun x hx Q' q' => ?_) ?_⟩
    · simp
      simp only [clo] at tr
      exact ⟨x, lo, hi, rfl, tyN_tree (clos_mem tr x hx), q'⟩
    · exact all_end (.inl q)
  | tuk xs => exact nk.elim
  | ref n => simp [clo] at tr
  | bl b => simp [F_are_integers_within, st4, tyN, subTy]; exact .inl q
  | non => simp [F_are_integers_within, st4, tyN, subTy]; exact .inl q
  | str x => simp [F_are_integers_within, st4, tyN, subTy]; exact .inl q
  | int xs => simp [F_are_integers_within, st4, tyN, subTy]; exact .inl q
  | lst xs => simp [F_are_integers_within, st4, tyN, subTy]; exact .inl q
  | scr xs => simp [F_are_integers_within, st4, tyN, subTy]; exact .inl q
def sized : D → Bool
  | .tup xs => decide (1 ≤ xs.length) && decide (xs.length ≤ 16)
  | _ => false
def g_sized : DRs := fun ds st Q => ∃ d : D, ds = [d] ∧ (∃ t, tyN st d = some t) ∧ NoK d ∧ Q (.bl (sized d)) st
theorem ar_sized (ds : List D) (st : DSt) (Q : DK) (h : g_sized ds st Q) : ds.length = 1 := by
  obtain ⟨d, rfl, _⟩ := h
  rfl
theorem sem_sized (ds : List D) (st : DSt) (Q : DK) (h : g_sized ds st Q) : F_is_sized { nx := fun _ st' => Rt st Q .non st', rt := Rt st Q } (startD 1 ds) st := by
  obtain ⟨d, rfl, ⟨t, ty⟩, nk, q⟩ := h
  have st1 : startD 1 [d] = [some d] := rfl
  cases d with
  | tup xs =>
    simp [F_is_sized, st1, tyN, subTy]
    simp only [sized] at q
    have e1 : decide ((1 : Int) ≤ xs.length) = decide (1 ≤ xs.length) := decide_eq_decide.mpr (by omega)
    have e2 : decide ((xs.length : Int) ≤ 16) = decide (xs.length ≤ 16) := decide_eq_decide.mpr (by omega)
    split
    · rename_i h1
      have h2 : 1 ≤ xs.length := by omega
      rw [decide_eq_true h2, Bool.true_and] at q
      rw [e2]
      exact .inl q
    · rename_i h1
      have h2 : ¬ 1 ≤ xs.length := by omega
      rw [decide_eq_false h2, Bool.false_and] at q
      exact .inl q
  | ref n =>
    have ne : t = "list" ∨ t = "dict" := by
      unfold tyN at ty
      simp only at ty
      split at ty <;> cases ty <;> simp
    simp [F_is_sized, st1, ty]
    rcases ne with rfl | rfl
    · exact .inl q
    · exact .inl q
  | tuk xs => exact nk.elim
  | bl b => simp [F_is_sized, st1, tyN, subTy]; exact .inl q
  | non => simp [F_is_sized, st1, tyN, subTy]; exact .inl q
  | str x => simp [F_is_sized, st1, tyN, subTy]; exact .inl q
  | int xs => simp [F_is_sized, st1, tyN, subTy]; exact .inl q
  | lst xs => simp [F_is_sized, st1, tyN, subTy]; exact .inl q
  | scr xs => simp [F_is_sized, st1, tyN, subTy]; exact .inl q
def rowD (ns : List Int) : D := .tup (ns.map D.int)
def rowsD (nss : List (List Int)) : D := .tup (nss.map rowD)
@[simp] theorem flat_int (i : Int) : flatD (.int i) = true := rfl
theorem flat_row (ns : List Int) : (ns.map D.int).all flatD = true := by rw [List.all_eq_true]; intro d hd; obtain ⟨i, _, rfl⟩ := List.mem_map.mp hd; rfl
theorem any_row (ns : List Int) (a : Int) : ((ns.map D.int).any fun y => eqF y (.int a)) = decide (a ∈ ns) := by
  rw [List.any_map]
  induction ns with
  | nil => simp
  | cons n ns ih =>
    rw [List.any_cons, ih]
    show ((n == a) || decide (a ∈ ns)) = decide (a ∈ n :: ns)
    by_cases e : n = a
    · rw [e]; simp
    · have e' : ¬ a = n := fun z => e z.symm
      simp [e, e']
theorem row_in {a : Int} {ns : List Int} {st : DSt} {Q : DK} (q : Q (.bl (decide (a ∈ ns))) st) : dInG false (.int a) (rowD ns) st Q := by
  unfold rowD
  simp only [e_in, e_seqT, e_onO]
  refine ⟨⟨rfl, flat_row ns⟩, ?_⟩
  rw [any_row]
  exact q
theorem row_notIn {a : Int} {ns : List Int} {st : DSt} {Q : DK} (q : Q (.bl (!decide (a ∈ ns))) st) : dInG true (.int a) (rowD ns) st Q := by
  unfold rowD
  simp only [e_nin, e_seqT, e_onO]
  refine ⟨⟨rfl, flat_row ns⟩, ?_⟩
  rw [any_row]
  exact q
theorem iteT' {c : Bool} {A B : Prop} (h : c = true) (a : A) : if c = true then A else B := by rw [if_pos h]; exact a
theorem iteF' {c : Bool} {A B : Prop} (h : c = false) (b : B) : if c = true then A else B := by rw [h]; exact iteF b
theorem at_map {α β : Type} {f : α → β} {xs : List α} {i : Nat} {x : α} (h : xs[i]? = some x) : atI (xs.map f) (i : Int) = some (f x) := atI_nat (by rw [List.getElem?_map, h]; rfl)
def dec (nss : List (List Int)) (a b : Nat) : Bool := if a = b then !decide ((a : Int) ∈ nss.getD a []) else (decide ((b : Int) ∈ nss.getD a []) != decide ((a : Int) ∈ nss.getD b []))
def g_decided : DRs := fun ds st Q => ∃ (nss : List (List Int)) (a b : Nat), ds = [rowsD nss, .int a, .int b] ∧ a < nss.length ∧ b < nss.length ∧ Q (.bl (dec nss a b)) st
theorem ar_decided (ds : List D) (st : DSt) (Q : DK) (h : g_decided ds st Q) : ds.length = 3 := by
  obtain ⟨_, _, _, rfl, _⟩ := h
  rfl
theorem getD_at {nss : List (List Int)} {a : Nat} (h : a < nss.length) : nss[a]? = some (nss.getD a []) := by
  rw [List.getD_eq_getElem?_getD, List.getElem?_eq_getElem h]
  rfl
theorem rows_at {nss : List (List Int)} {a : Nat} (h : a < nss.length) : atI (nss.map rowD) (a : Int) = some (rowD (nss.getD a [])) := at_map (getD_at h)
theorem sem_decided (ds : List D) (st : DSt) (Q : DK) (h : g_decided ds st Q) : F_is_decided { nx := fun _ st' => Rt st Q .non st', rt := Rt st Q } (startD 3 ds) st := by
  obtain ⟨nss, a, b, rfl, la, lb, q⟩ := h
  have st3 : startD 3 [rowsD nss, D.int (a : Nat), D.int (b : Nat)] = [some (.tup (nss.map rowD)), some (.int a), some (.int b)] := rfl
  unfold dec at q
  by_cases e : a = b
  · rw [if_pos e] at q
    subst e
    simp only [F_is_decided, st3, e_var, e_C, e_op, e_neg, e_isN, e_notN, e_and, e_or, e_not, e_test, e_tAnd, e_tOr, e_tNot, e_tYes, e_if, e_aNil, e_aCons, e_tup, e_lst, e_lstN, e_len0, e_len1, e_len2, e_len3, e_len4, e_len5, e_cb, e_on1, e_on2, e_onI, e_onB, e_onO, e_onO0, e_onOO, e_I0, e_I, e_add, e_addT, e_addS, e_addL, e_addLR, e_addRL, e_addRR, e_mul, e_mulL, e_mulT, e_rev, e_revT, e_ix, e_eqI, e_eqS, e_eqB, e_neI, e_neS, e_neB, e_ltI, e_chain, e_len, e_abs, e_2I, e_tuple1, e_tuple2, e_tuple3, e_listT, e_listN, e_allR, e_seqT, e_seqK, e_seqL, e_isi, e_isB, e_notB, e_truth, e_next, e_seq, e_drop, e_ret, e_retN, e_ifS, e_set, e_asg, e_par, e_nm, e_gsN, e_gsC, e_gTpK, e_gTpL, e_sum, e_maxL, e_minL, e_maxDef, e_int, e_intB, e_aug, e_on3, e_par3, e_newK, e_getK, e_keyI, e_keyS, e_inK, e_ninK, e_putK, e_lenK, e_lstS, e_seqX, e_gTpT, e_oN, e_oS, e_sl, e_slT, e_slL, e_finT, e_finN, e_index, e_idxT, e_idxL, e_mIx, e_ixST, e_ixSL, e_mtL, e_w, e_w1, e_w2, e_wE, e_wZ, e_itK, e_itT, e_itL, e_itT2, e_itL2, e_lc, e_for, e_wipe0, e_wipe, e_okI, e_okR, e_gSb, List.getElem?_cons_zero, List.getElem?_cons_succ, List.set_cons_zero, List.set_cons_succ, rows_at la]
    refine iteT' (by simp) (row_notIn (.inl q))
  · rw [if_neg e] at q
    have e' : ¬ (a : Int) = b := by omega
    simp only [F_is_decided, st3, e_seq, e_ifS, e_test, e_op, e_var, List.getElem?_cons_zero, List.getElem?_cons_succ, e_onOO, e_eqI, e_onB, e_next, e_ret]
    rw [if_neg (by simpa using e')]
    simp only [e_ix, e_seqT, e_onO, e_onI, rows_at la, rows_at lb]
    refine row_in (row_in ?_)
    simp only [e_neB]
    have ee : (!decide (decide ((b : Int) ∈ nss.getD a []) = decide ((a : Int) ∈ nss.getD b []))) = (decide ((b : Int) ∈ nss.getD a []) != decide ((a : Int) ∈ nss.getD b [])) := by
      generalize decide ((b : Int) ∈ nss.getD a []) = x
      generalize decide ((a : Int) ∈ nss.getD b []) = y
      cases x <;> cases y <;> rfl
    rw [ee]
    exact .inl q
def ascI (ns : List Int) : Bool := (ns.zip (ns.drop 1)).all fun p => decide (p.1 < p.2)
theorem ascI_of : ∀ {ns : List Int}, ns.Pairwise (· < ·) → ascI ns = true
  | [], _ => rfl
  | [a], _ => rfl
  | a :: b :: r, h => by
    have h1 := List.pairwise_cons.mp h
    have z := ascI_of h1.2
    unfold ascI at z ⊢
    show ((a, b) :: (b :: r).zip r).all _ = true
    rw [List.all_cons, decide_eq_true (h1.1 b List.mem_cons_self), Bool.true_and]
    exact z
def g_ascRow : DRs := fun ds st Q => ∃ (n : Nat) (ns : List Int), ds = [.int n, rowD ns] ∧ ns.length ≤ 1000 ∧ (∀ x ∈ ns, 0 ≤ x ∧ x ≤ (n : Int) - 1) ∧ Q (.bl (ascI ns)) st
theorem ar_ascRow (ds : List D) (st : DSt) (Q : DK) (h : g_ascRow ds st Q) : ds.length = 2 := by
  obtain ⟨_, _, rfl, _⟩ := h
  rfl
theorem cut1 (xs : List D) : cutD xs (some 1) none = xs.drop 1 := by
  unfold cutD
  have z : HT.sIx xs.length 0 (some 1) = min 1 xs.length := HT.sIx_nat xs.length 0 1
  rw [z, HT.sIx_none]
  cases xs with
  | nil => rfl
  | cons a r => simp
theorem clos_row (n : Nat) (ns : List Int) : clo n (rowD ns) = true := by
  unfold rowD
  simp only [clo]
  exact clos_ints n ns
theorem zip_ints (ns ms : List Int) : zipD (ns.map D.int) (ms.map D.int) = (ns.zip ms).map fun p => D.tuk [.int p.1, .int p.2] := by
  unfold zipD
  rw [List.zip_map, List.map_map]
  rfl
theorem compL_gen {g : DTG} {te : DTE} {r : DEnv} {Q : List D → DSt → Prop} {st : DSt} {xs : List D} {α : Type} (f : α → D) (h : α → D) :
    ∀ (items : List α) (acc : List D), (∀ a ∈ items, ∀ Q' : DEnv → DSt → Prop, (∀ r2, Ev te r2 st (h a) → Q' r2 st) → g (f a) r st Q') → Q (acc ++ items.map h) st → compL ⟨xs, none⟩ g dtYes te r Q (items.map f) acc st
  | [], acc, _, q => by
    have q' : Q acc st := by simpa using q
    exact q'
  | a :: as, acc, hh, q => by
    show g (f a) r st _
    refine hh a List.mem_cons_self _ fun r2 e2 => ?_
    show te r2 st _
    refine e2 _ (compL_gen f h as _ (fun b hb => hh b (List.mem_cons_of_mem _ hb)) ?_)
    simpa using q
theorem sem_ascRow (ds : List D) (st : DSt) (Q : DK) (h : g_ascRow ds st Q) : F_is_ascending g_allIn { nx := fun _ st' => Rt st Q .non st', rt := Rt st Q } (startD 4 ds) st := by
  obtain ⟨n, ns, rfl, few, inr, q⟩ := h
  have st4 : startD 4 [D.int (n : Nat), rowD ns] = [some (.int n), some (rowD ns), none, none] := rfl
  simp only [F_is_ascending, st4, e_seq, e_ifS, e_tNot, e_test, e_cb, e_aCons, e_aNil, e_var, e_C, e_op, e_I0, e_onI, List.getElem?_cons_zero, List.getElem?_cons_succ, e_onOO]
  refine ⟨rowD ns, 0, n - 1, rfl, clos_row 0 ns, trivial, fun xs e => ?_, ?_⟩
  · unfold rowD at e
    cases e
    rw [List.length_map]
    exact Nat.le_of_lt (small1000 few)
  · have z : allIn 0 ((n : Int) - 1) (rowD ns) = true := by
      unfold rowD
      simp only [allIn, List.all_map]
      rw [List.all_eq_true]
      intro x hx
      have := inr x hx
      simp [inR, this.1, this.2]
    rw [z]
    simp only [e_onB]
    refine iteF ?_
    have len : (zipD (ns.map D.int) ((ns.drop 1).map D.int)).length ≤ sizeLine := by
      rw [zipD_length, List.length_map]
      have := small1000 few
      omega
    simp only [e_next, e_ret, e_cb, e_aCons, e_aNil, e_lc, e_wZ, e_var, e_sl, e_oS, e_oN, e_C, e_onI, List.getElem?_cons_zero, List.getElem?_cons_succ, e_onOO]
    unfold rowD
    simp only [e_slT, cut1, e_on2, e_itT2, e_onO]
    rw [← List.map_drop]
    refine ⟨len, ?_⟩
    rw [zip_ints]
    refine compL_gen _ (fun p => .bl (decide (p.1 < p.2))) _ [] (fun p hp Q' k => ?_) ?_
    · simp
      refine k _ fun Q2 q2 => ?_
      simp
      exact q2
    · rw [List.nil_append]
      exact all_end (.inl q)
theorem compI_rng {te : DTE} {r : DEnv} {Nx : List D → DSt → Prop} {st : DSt} {xs : List D} {i : Nat} (h : D → D) :
    ∀ (items acc : List D), acc.length + items.length ≤ sizeLine → (∀ d ∈ items, Ev te (r.set i (some d)) st (h d)) → Nx (acc ++ items.map h) st → compI ⟨xs, none⟩ (gNm i) dtYes te r Nx items acc st
  | [], acc, _, _, q => by
    have q' : Nx acc st := by simpa using q
    exact q'
  | d :: ds, acc, le, hh, q => by
    rw [List.length_cons] at le
    show te (r.set i (some d)) st _
    refine hh d List.mem_cons_self _ ⟨by omega, compI_rng h ds _ (by rw [List.length_append]; simp; omega) (fun b hb => hh b (List.mem_cons_of_mem _ hb)) ?_⟩
    simpa using q
theorem comp2_all {f1 : DTI} {te : DTE} {r : DEnv} {Q : List D → DSt → Prop} {st : DSt} {xs : List D} {i j : Nat} {vs1 : List Nat} (its : D → List D) (h : D → D → D) :
    ∀ (items acc : List D), acc.length + ((items.map its).map List.length).sum ≤ sizeLine → (∀ d ∈ items, ∀ R : DIt → DSt → Prop, R ⟨its d, none⟩ st → f1 (r.set i (some d)) st R) → (∀ d ∈ items, ∀ e ∈ its d, Ev te ((wipeD (r.set i (some d)) vs1).set j (some e)) st (h d e)) →
      Q (acc ++ items.flatMap fun d => (its d).map (h d)) st → comp2 ⟨xs, none⟩ (gNm i) dtYes f1 (gNm j) dtYes te r vs1 Q items acc st
  | [], acc, _, _, _, q => by
    have q' : Q acc st := by simpa using q
    exact q'
  | d :: ds, acc, le, h1, h2, q => by
    simp only [List.map_cons, List.sum_cons] at le
    show f1 (r.set i (some d)) st _
    refine h1 d List.mem_cons_self _ ?_
    refine compI_rng (h d) (its d) acc (by omega) (fun e he => h2 d List.mem_cons_self e he) ?_
    refine comp2_all its h ds _ (by rw [List.length_append, List.length_map]; omega) (fun b hb => h1 b (List.mem_cons_of_mem _ hb)) (fun b hb => h2 b (List.mem_cons_of_mem _ hb)) ?_
    simpa using q
@[simp] theorem e_lc2 {f f1 : DTI} {g g1 : DTG} {tt tt1 : DTT} {te : DTE} {vs vs1 : List Nat} {fin : DK → List D → DSt → Prop} {r : DEnv} {st : DSt} {Q : DK} : dLc2G f g tt f1 g1 tt1 te vs vs1 fin r st Q = f r st fun I st1 => comp2 I g tt f1 g1 tt1 te (wipeD r vs) vs1 (fin Q) I.items [] st1 := rfl
structure Tb (n : Nat) (nss : List (List Int)) : Prop where
  len : nss.length = n
  asc : ∀ a : Nat, a < n → (nss.getD a []).Pairwise (· < ·)
  inr : ∀ a : Nat, a < n → ∀ x ∈ nss.getD a [], 0 ≤ x ∧ x < (n : Int)
  one : ∀ a b : Nat, a < n → b < n → dec nss a b = true
def g_tableOk : DRs := fun ds st Q => ∃ (n : Nat) (nss : List (List Int)), ds = [.int n, rowsD nss] ∧ n ≤ 60 ∧ Tb n nss ∧ Q (.bl true) st
theorem ar_tableOk (ds : List D) (st : DSt) (Q : DK) (h : g_tableOk ds st Q) : ds.length = 2 := by
  obtain ⟨_, _, rfl, _⟩ := h
  rfl
theorem Tb.row {n : Nat} {nss : List (List Int)} (t : Tb n nss) {ns : List Int} (h : ns ∈ nss) : ns.Pairwise (· < ·) ∧ ∀ x ∈ ns, 0 ≤ x ∧ x < (n : Int) := by
  obtain ⟨a, ha⟩ := List.mem_iff_getElem?.mp h
  have lt : a < n := by rw [← t.len]; exact (List.getElem?_eq_some_iff.mp ha).1
  have e : nss.getD a [] = ns := by rw [List.getD_eq_getElem?_getD, ha]; rfl
  rw [← e]
  exact ⟨t.asc a lt, t.inr a lt⟩
theorem asc_len {n : Nat} : ∀ {ns : List Int} {lo : Int}, ns.Pairwise (· < ·) → (∀ x ∈ ns, lo ≤ x ∧ x < (n : Int)) → (ns.length : Int) ≤ (n : Int) - lo ∨ ns = []
  | [], lo, _, _ => .inr rfl
  | a :: r, lo, h, hx => by
    have h1 := List.pairwise_cons.mp h
    have ha := hx a List.mem_cons_self
    rcases asc_len (lo := a + 1) h1.2 (fun x m => ⟨by have := h1.1 x m; omega, (hx x (List.mem_cons_of_mem _ m)).2⟩) with z | z
    · left; rw [List.length_cons]; omega
    · left; rw [z]; simp; omega
theorem Tb.few {n : Nat} {nss : List (List Int)} (t : Tb n nss) {ns : List Int} (h : ns ∈ nss) : ns.length ≤ n := by
  obtain ⟨a, b⟩ := t.row h
  rcases asc_len (lo := 0) a b with z | z
  · omega
  · rw [z]; simp
theorem sum_le : ∀ (l : List Nat) (c : Nat), (∀ x ∈ l, x ≤ c) → l.sum ≤ l.length * c
  | [], c, _ => by simp
  | a :: r, c, h => by
    have := sum_le r c fun x hx => h x (List.mem_cons_of_mem _ hx)
    have := h a List.mem_cons_self
    rw [List.sum_cons, List.length_cons, Nat.succ_mul]
    omega
theorem all_end0 {ds : List D} {Q : DK} {st : DSt} (h : ∀ d ∈ ds, d = .bl true) (q : Q (.bl true) st) : finT (fun d st1 => dAllR (fun bs => bs.all id) [d] st1 Q) ds st := by
  have e : ds = (List.replicate ds.length true).map D.bl := by
    refine List.ext_getElem (by simp) fun i h1 h2 => ?_
    rw [h _ (List.getElem_mem h1)]
    simp
  rw [e]
  refine all_end (p := id) ?_
  rw [show (List.replicate ds.length true).all id = true by simp]
  exact q
theorem sem_tableOk (ds : List D) (st : DSt) (Q : DK) (h : g_tableOk ds st Q) : F_is_table g_ascRow g_decided { nx := fun _ st' => Rt st Q .non st', rt := Rt st Q } (startD 5 ds) st := by
  obtain ⟨n, nss, rfl, n60, tb, q⟩ := h
  have st5 : startD 5 [D.int (n : Nat), rowsD nss] = [some (.int n), some (.tup (nss.map rowD)), none, none, none] := rfl
  have big : (1000 : Nat) ≤ sizeLine := by decide
  simp only [F_is_table, st5, e_var, e_C, e_op, e_neg, e_isN, e_notN, e_and, e_or, e_not, e_test, e_tAnd, e_tOr, e_tNot, e_tYes, e_if, e_aNil, e_aCons, e_tup, e_lst, e_lstN, e_len0, e_len1, e_len2, e_len3, e_len4, e_len5, e_cb, e_on1, e_on2, e_onI, e_onB, e_onO, e_onO0, e_onOO, e_I0, e_I, e_add, e_addT, e_addS, e_addL, e_addLR, e_addRL, e_addRR, e_mul, e_mulL, e_mulT, e_rev, e_revT, e_ix, e_eqI, e_eqS, e_eqB, e_neI, e_neS, e_neB, e_ltI, e_chain, e_len, e_abs, e_2I, e_tuple1, e_tuple2, e_tuple3, e_listT, e_listN, e_allR, e_seqT, e_seqK, e_seqL, e_isi, e_isB, e_notB, e_truth, e_next, e_seq, e_drop, e_ret, e_retN, e_ifS, e_set, e_asg, e_par, e_nm, e_gsN, e_gsC, e_gTpK, e_gTpL, e_sum, e_maxL, e_minL, e_maxDef, e_int, e_intB, e_aug, e_on3, e_par3, e_newK, e_getK, e_keyI, e_keyS, e_inK, e_ninK, e_putK, e_lenK, e_lstS, e_seqX, e_gTpT, e_oN, e_oS, e_sl, e_slT, e_slL, e_finT, e_finN, e_index, e_idxT, e_idxL, e_mIx, e_ixST, e_ixSL, e_mtL, e_w, e_w1, e_w2, e_wE, e_wZ, e_itK, e_itT, e_itL, e_itT2, e_itL2, e_lc, e_for, e_wipe0, e_wipe, e_okI, e_okR, e_gSb, List.getElem?_cons_zero, List.getElem?_cons_succ, List.set_cons_zero, List.set_cons_succ, e_lc2, tyN, List.length_map, tb.len]
  refine iteF' (by decide) (iteF' (by simp) ⟨by omega, lc_map (fun _ => .bl true) (fun d hd Q' q' => ?_) ?_⟩)
  · obtain ⟨ns, hn, rfl⟩ := List.mem_map.mp hd
    obtain ⟨a, b⟩ := tb.row hn
    simp only [e_var, e_C, e_op, e_neg, e_isN, e_notN, e_and, e_or, e_not, e_test, e_tAnd, e_tOr, e_tNot, e_tYes, e_if, e_aNil, e_aCons, e_tup, e_lst, e_lstN, e_len0, e_len1, e_len2, e_len3, e_len4, e_len5, e_cb, e_on1, e_on2, e_onI, e_onB, e_onO, e_onO0, e_onOO, e_I0, e_I, e_add, e_addT, e_addS, e_addL, e_addLR, e_addRL, e_addRR, e_mul, e_mulL, e_mulT, e_rev, e_revT, e_ix, e_eqI, e_eqS, e_eqB, e_neI, e_neS, e_neB, e_ltI, e_chain, e_len, e_abs, e_2I, e_tuple1, e_tuple2, e_tuple3, e_listT, e_listN, e_allR, e_seqT, e_seqK, e_seqL, e_isi, e_isB, e_notB, e_truth, e_next, e_seq, e_drop, e_ret, e_retN, e_ifS, e_set, e_asg, e_par, e_nm, e_gsN, e_gsC, e_gTpK, e_gTpL, e_sum, e_maxL, e_minL, e_maxDef, e_int, e_intB, e_aug, e_on3, e_par3, e_newK, e_getK, e_keyI, e_keyS, e_inK, e_ninK, e_putK, e_lenK, e_lstS, e_seqX, e_gTpT, e_oN, e_oS, e_sl, e_slT, e_slL, e_finT, e_finN, e_index, e_idxT, e_idxL, e_mIx, e_ixST, e_ixSL, e_mtL, e_w, e_w1, e_w2, e_wE, e_wZ, e_itK, e_itT, e_itL, e_itT2, e_itL2, e_lc, e_for, e_wipe0, e_wipe, e_okI, e_okR, e_gSb, List.getElem?_cons_zero, List.getElem?_cons_succ, List.set_cons_zero, List.set_cons_succ]
    refine ⟨n, ns, rfl, by have := tb.few hn; omega, fun x hx => ?_, by rw [ascI_of a]; exact q'⟩
    have := b x hx
    omega
  · refine all_end0 (fun d hd => by obtain ⟨_, _, rfl⟩ := List.mem_map.mp hd; rfl) ?_
    simp only [e_var, e_C, e_op, e_neg, e_isN, e_notN, e_and, e_or, e_not, e_test, e_tAnd, e_tOr, e_tNot, e_tYes, e_if, e_aNil, e_aCons, e_tup, e_lst, e_lstN, e_len0, e_len1, e_len2, e_len3, e_len4, e_len5, e_cb, e_on1, e_on2, e_onI, e_onB, e_onO, e_onO0, e_onOO, e_I0, e_I, e_add, e_addT, e_addS, e_addL, e_addLR, e_addRL, e_addRR, e_mul, e_mulL, e_mulT, e_rev, e_revT, e_ix, e_eqI, e_eqS, e_eqB, e_neI, e_neS, e_neB, e_ltI, e_chain, e_len, e_abs, e_2I, e_tuple1, e_tuple2, e_tuple3, e_listT, e_listN, e_allR, e_seqT, e_seqK, e_seqL, e_isi, e_isB, e_notB, e_truth, e_next, e_seq, e_drop, e_ret, e_retN, e_ifS, e_set, e_asg, e_par, e_nm, e_gsN, e_gsC, e_gTpK, e_gTpL, e_sum, e_maxL, e_minL, e_maxDef, e_int, e_intB, e_aug, e_on3, e_par3, e_newK, e_getK, e_keyI, e_keyS, e_inK, e_ninK, e_putK, e_lenK, e_lstS, e_seqX, e_gTpT, e_oN, e_oS, e_sl, e_slT, e_slL, e_finT, e_finN, e_index, e_idxT, e_idxL, e_mIx, e_ixST, e_ixSL, e_mtL, e_w, e_w1, e_w2, e_wE, e_wZ, e_itK, e_itT, e_itL, e_itT2, e_itL2, e_lc, e_for, e_wipe0, e_wipe, e_okI, e_okR, e_gSb, List.getElem?_cons_zero, List.getElem?_cons_succ, List.set_cons_zero, List.set_cons_succ]
    refine iteF' (by decide) ⟨⟨by omega, by omega⟩, ?_⟩
    refine comp2_all (fun d => match d with | .int i => rgD 0 (i + 1).toNat | _ => []) (fun _ _ => .bl true) _ [] ?_ (fun d hd R hR => ?_) (fun d hd e he Q' q' => ?_) ?_
    · refine Nat.le_trans (Nat.add_le_add_left (sum_le _ 100 fun x hx => ?_) _) ?_
      · obtain ⟨y, hy, rfl⟩ := List.mem_map.mp hx
        obtain ⟨z, hz, rfl⟩ := List.mem_map.mp hy
        obtain ⟨k, lk, rfl⟩ := rgD_mem hz
        simp only [rgD_length]
        omega
      · simp only [List.length_map, rgD_length, List.length_nil]
        have : (10000 : Nat) ≤ sizeLine := by decide
        omega
    · obtain ⟨k, lk, rfl⟩ := rgD_mem hd
      simp only [e_var, e_C, e_op, e_neg, e_isN, e_notN, e_and, e_or, e_not, e_test, e_tAnd, e_tOr, e_tNot, e_tYes, e_if, e_aNil, e_aCons, e_tup, e_lst, e_lstN, e_len0, e_len1, e_len2, e_len3, e_len4, e_len5, e_cb, e_on1, e_on2, e_onI, e_onB, e_onO, e_onO0, e_onOO, e_I0, e_I, e_add, e_addT, e_addS, e_addL, e_addLR, e_addRL, e_addRR, e_mul, e_mulL, e_mulT, e_rev, e_revT, e_ix, e_eqI, e_eqS, e_eqB, e_neI, e_neS, e_neB, e_ltI, e_chain, e_len, e_abs, e_2I, e_tuple1, e_tuple2, e_tuple3, e_listT, e_listN, e_allR, e_seqT, e_seqK, e_seqL, e_isi, e_isB, e_notB, e_truth, e_next, e_seq, e_drop, e_ret, e_retN, e_ifS, e_set, e_asg, e_par, e_nm, e_gsN, e_gsC, e_gTpK, e_gTpL, e_sum, e_maxL, e_minL, e_maxDef, e_int, e_intB, e_aug, e_on3, e_par3, e_newK, e_getK, e_keyI, e_keyS, e_inK, e_ninK, e_putK, e_lenK, e_lstS, e_seqX, e_gTpT, e_oN, e_oS, e_sl, e_slT, e_slL, e_finT, e_finN, e_index, e_idxT, e_idxL, e_mIx, e_ixST, e_ixSL, e_mtL, e_w, e_w1, e_w2, e_wE, e_wZ, e_itK, e_itT, e_itL, e_itT2, e_itL2, e_lc, e_for, e_wipe0, e_wipe, e_okI, e_okR, e_gSb, List.getElem?_cons_zero, List.getElem?_cons_succ, List.set_cons_zero, List.set_cons_succ]
      refine ⟨⟨by omega, by omega⟩, ?_⟩
      exact hR
    · obtain ⟨k, lk, rfl⟩ := rgD_mem hd
      obtain ⟨m, lm, rfl⟩ := rgD_mem he
      simp only [e_var, e_C, e_op, e_neg, e_isN, e_notN, e_and, e_or, e_not, e_test, e_tAnd, e_tOr, e_tNot, e_tYes, e_if, e_aNil, e_aCons, e_tup, e_lst, e_lstN, e_len0, e_len1, e_len2, e_len3, e_len4, e_len5, e_cb, e_on1, e_on2, e_onI, e_onB, e_onO, e_onO0, e_onOO, e_I0, e_I, e_add, e_addT, e_addS, e_addL, e_addLR, e_addRL, e_addRR, e_mul, e_mulL, e_mulT, e_rev, e_revT, e_ix, e_eqI, e_eqS, e_eqB, e_neI, e_neS, e_neB, e_ltI, e_chain, e_len, e_abs, e_2I, e_tuple1, e_tuple2, e_tuple3, e_listT, e_listN, e_allR, e_seqT, e_seqK, e_seqL, e_isi, e_isB, e_notB, e_truth, e_next, e_seq, e_drop, e_ret, e_retN, e_ifS, e_set, e_asg, e_par, e_nm, e_gsN, e_gsC, e_gTpK, e_gTpL, e_sum, e_maxL, e_minL, e_maxDef, e_int, e_intB, e_aug, e_on3, e_par3, e_newK, e_getK, e_keyI, e_keyS, e_inK, e_ninK, e_putK, e_lenK, e_lstS, e_seqX, e_gTpT, e_oN, e_oS, e_sl, e_slT, e_slL, e_finT, e_finN, e_index, e_idxT, e_idxL, e_mIx, e_ixST, e_ixSL, e_mtL, e_w, e_w1, e_w2, e_wE, e_wZ, e_itK, e_itT, e_itL, e_itT2, e_itL2, e_lc, e_for, e_wipe0, e_wipe, e_okI, e_okR, e_gSb, List.getElem?_cons_zero, List.getElem?_cons_succ, List.set_cons_zero, List.set_cons_succ]
      rw [Int.zero_add, Int.zero_add]
      refine ⟨nss, k, m, rfl, by rw [tb.len]; omega, by rw [tb.len]; omega, ?_⟩
      rw [tb.one k m (by omega) (by omega)]
      exact q'
    · rw [List.nil_append]
      refine all_end0 (fun d hd => ?_) (.inl q)
      obtain ⟨_, _, h2⟩ := List.mem_flatMap.mp hd
      obtain ⟨_, _, rfl⟩ := List.mem_map.mp h2
      rfl
def tabsD (ts : List (List (List Int))) : D := .tup (ts.map rowsD)
structure Ru (n : Nat) (ts : List (List (List Int))) : Prop where
  s0 : 1 ≤ ts.length
  s1 : ts.length ≤ 16
  k0 : 1 ≤ n
  k1 : n ≤ 16
  tb : ∀ t ∈ ts, Tb n t
def g_ruleOk : DRs := fun ds st Q => ∃ (n : Nat) (ts : List (List (List Int))), ds = [tabsD ts] ∧ Ru n ts ∧ Q (.bl true) st
theorem ar_ruleOk (ds : List D) (st : DSt) (Q : DK) (h : g_ruleOk ds st Q) : ds.length = 1 := by
  obtain ⟨_, _, rfl, _⟩ := h
  rfl
theorem sem_ruleOk (ds : List D) (st : DSt) (Q : DK) (h : g_ruleOk ds st Q) : F_is_rule g_sized g_tableOk { nx := fun _ st' => Rt st Q .non st', rt := Rt st Q } (startD 3 ds) st := by
  obtain ⟨n, ts, rfl, ru, q⟩ := h
  have st3 : startD 3 [tabsD ts] = [some (.tup (ts.map rowsD)), none, none] := rfl
  obtain ⟨t, r, rfl⟩ : ∃ t r, ts = t :: r := by
    cases ts with
    | nil => have := ru.s0; simp at this
    | cons t r => exact ⟨t, r, rfl⟩
  have tb := ru.tb t List.mem_cons_self
  have s1 := ru.s1
  have k0 := ru.k0
  have k1 := ru.k1
  rw [List.length_cons] at s1
  have at_ : atI ((t :: r).map rowsD) 0 = some (rowsD t) := at0
  simp only [F_is_rule, st3, e_var, e_C, e_op, e_neg, e_isN, e_notN, e_and, e_or, e_not, e_test, e_tAnd, e_tOr, e_tNot, e_tYes, e_if, e_aNil, e_aCons, e_tup, e_lst, e_lstN, e_len0, e_len1, e_len2, e_len3, e_len4, e_len5, e_cb, e_on1, e_on2, e_onI, e_onB, e_onO, e_onO0, e_onOO, e_I0, e_I, e_add, e_addT, e_addS, e_addL, e_addLR, e_addRL, e_addRR, e_mul, e_mulL, e_mulT, e_rev, e_revT, e_ix, e_eqI, e_eqS, e_eqB, e_neI, e_neS, e_neB, e_ltI, e_chain, e_len, e_abs, e_2I, e_tuple1, e_tuple2, e_tuple3, e_listT, e_listN, e_allR, e_seqT, e_seqK, e_seqL, e_isi, e_isB, e_notB, e_truth, e_next, e_seq, e_drop, e_ret, e_retN, e_ifS, e_set, e_asg, e_par, e_nm, e_gsN, e_gsC, e_gTpK, e_gTpL, e_sum, e_maxL, e_minL, e_maxDef, e_int, e_intB, e_aug, e_on3, e_par3, e_newK, e_getK, e_keyI, e_keyS, e_inK, e_ninK, e_putK, e_lenK, e_lstS, e_seqX, e_gTpT, e_oN, e_oS, e_sl, e_slT, e_slL, e_finT, e_finN, e_index, e_idxT, e_idxL, e_mIx, e_ixST, e_ixSL, e_mtL, e_w, e_w1, e_w2, e_wE, e_wZ, e_itK, e_itT, e_itL, e_itT2, e_itL2, e_lc, e_for, e_wipe0, e_wipe, e_okI, e_okR, e_gSb, List.getElem?_cons_zero, List.getElem?_cons_succ, List.set_cons_zero, List.set_cons_succ, at_]
  refine ⟨.tup ((t :: r).map rowsD), rfl, ⟨_, rfl⟩, trivial, ?_⟩
  have z1 : sized (.tup ((t :: r).map rowsD)) = true := by simp [sized]; omega
  rw [z1]
  simp only [e_var, e_C, e_op, e_neg, e_isN, e_notN, e_and, e_or, e_not, e_test, e_tAnd, e_tOr, e_tNot, e_tYes, e_if, e_aNil, e_aCons, e_tup, e_lst, e_lstN, e_len0, e_len1, e_len2, e_len3, e_len4, e_len5, e_cb, e_on1, e_on2, e_onI, e_onB, e_onO, e_onO0, e_onOO, e_I0, e_I, e_add, e_addT, e_addS, e_addL, e_addLR, e_addRL, e_addRR, e_mul, e_mulL, e_mulT, e_rev, e_revT, e_ix, e_eqI, e_eqS, e_eqB, e_neI, e_neS, e_neB, e_ltI, e_chain, e_len, e_abs, e_2I, e_tuple1, e_tuple2, e_tuple3, e_listT, e_listN, e_allR, e_seqT, e_seqK, e_seqL, e_isi, e_isB, e_notB, e_truth, e_next, e_seq, e_drop, e_ret, e_retN, e_ifS, e_set, e_asg, e_par, e_nm, e_gsN, e_gsC, e_gTpK, e_gTpL, e_sum, e_maxL, e_minL, e_maxDef, e_int, e_intB, e_aug, e_on3, e_par3, e_newK, e_getK, e_keyI, e_keyS, e_inK, e_ninK, e_putK, e_lenK, e_lstS, e_seqX, e_gTpT, e_oN, e_oS, e_sl, e_slT, e_slL, e_finT, e_finN, e_index, e_idxT, e_idxL, e_mIx, e_ixST, e_ixSL, e_mtL, e_w, e_w1, e_w2, e_wE, e_wZ, e_itK, e_itT, e_itL, e_itT2, e_itL2, e_lc, e_for, e_wipe0, e_wipe, e_okI, e_okR, e_gSb, List.getElem?_cons_zero, List.getElem?_cons_succ, List.set_cons_zero, List.set_cons_succ]
  refine iteF' (by decide) ⟨rowsD t, rfl, ⟨_, rfl⟩, trivial, ?_⟩
  have z2 : sized (rowsD t) = true := by simp [sized, rowsD, tb.len]; omega
  rw [z2]
  simp only [e_var, e_C, e_op, e_neg, e_isN, e_notN, e_and, e_or, e_not, e_test, e_tAnd, e_tOr, e_tNot, e_tYes, e_if, e_aNil, e_aCons, e_tup, e_lst, e_lstN, e_len0, e_len1, e_len2, e_len3, e_len4, e_len5, e_cb, e_on1, e_on2, e_onI, e_onB, e_onO, e_onO0, e_onOO, e_I0, e_I, e_add, e_addT, e_addS, e_addL, e_addLR, e_addRL, e_addRR, e_mul, e_mulL, e_mulT, e_rev, e_revT, e_ix, e_eqI, e_eqS, e_eqB, e_neI, e_neS, e_neB, e_ltI, e_chain, e_len, e_abs, e_2I, e_tuple1, e_tuple2, e_tuple3, e_listT, e_listN, e_allR, e_seqT, e_seqK, e_seqL, e_isi, e_isB, e_notB, e_truth, e_next, e_seq, e_drop, e_ret, e_retN, e_ifS, e_set, e_asg, e_par, e_nm, e_gsN, e_gsC, e_gTpK, e_gTpL, e_sum, e_maxL, e_minL, e_maxDef, e_int, e_intB, e_aug, e_on3, e_par3, e_newK, e_getK, e_keyI, e_keyS, e_inK, e_ninK, e_putK, e_lenK, e_lstS, e_seqX, e_gTpT, e_oN, e_oS, e_sl, e_slT, e_slL, e_finT, e_finN, e_index, e_idxT, e_idxL, e_mIx, e_ixST, e_ixSL, e_mtL, e_w, e_w1, e_w2, e_wE, e_wZ, e_itK, e_itT, e_itL, e_itT2, e_itL2, e_lc, e_for, e_wipe0, e_wipe, e_okI, e_okR, e_gSb, List.getElem?_cons_zero, List.getElem?_cons_succ, List.set_cons_zero, List.set_cons_succ, rowsD]
  refine iteF' (by decide) ?_
  simp only [e_var, e_C, e_op, e_neg, e_isN, e_notN, e_and, e_or, e_not, e_test, e_tAnd, e_tOr, e_tNot, e_tYes, e_if, e_aNil, e_aCons, e_tup, e_lst, e_lstN, e_len0, e_len1, e_len2, e_len3, e_len4, e_len5, e_cb, e_on1, e_on2, e_onI, e_onB, e_onO, e_onO0, e_onOO, e_I0, e_I, e_add, e_addT, e_addS, e_addL, e_addLR, e_addRL, e_addRR, e_mul, e_mulL, e_mulT, e_rev, e_revT, e_ix, e_eqI, e_eqS, e_eqB, e_neI, e_neS, e_neB, e_ltI, e_chain, e_len, e_abs, e_2I, e_tuple1, e_tuple2, e_tuple3, e_listT, e_listN, e_allR, e_seqT, e_seqK, e_seqL, e_isi, e_isB, e_notB, e_truth, e_next, e_seq, e_drop, e_ret, e_retN, e_ifS, e_set, e_asg, e_par, e_nm, e_gsN, e_gsC, e_gTpK, e_gTpL, e_sum, e_maxL, e_minL, e_maxDef, e_int, e_intB, e_aug, e_on3, e_par3, e_newK, e_getK, e_keyI, e_keyS, e_inK, e_ninK, e_putK, e_lenK, e_lstS, e_seqX, e_gTpT, e_oN, e_oS, e_sl, e_slT, e_slL, e_finT, e_finN, e_index, e_idxT, e_idxL, e_mIx, e_ixST, e_ixSL, e_mtL, e_w, e_w1, e_w2, e_wE, e_wZ, e_itK, e_itT, e_itL, e_itT2, e_itL2, e_lc, e_for, e_wipe0, e_wipe, e_okI, e_okR, e_gSb, List.getElem?_cons_zero, List.getElem?_cons_succ, List.set_cons_zero, List.set_cons_succ, at_, rowsD, List.length_map, tb.len]
  refine ⟨by have : (1000 : Nat) ≤ sizeLine := by decide
             simp; omega, lc_map (fun _ => .bl true) (fun d hd Q' q' => ?_) ?_⟩
  · obtain ⟨ns, hn, rfl⟩ := List.mem_map.mp hd
    simp only [e_var, e_C, e_op, e_neg, e_isN, e_notN, e_and, e_or, e_not, e_test, e_tAnd, e_tOr, e_tNot, e_tYes, e_if, e_aNil, e_aCons, e_tup, e_lst, e_lstN, e_len0, e_len1, e_len2, e_len3, e_len4, e_len5, e_cb, e_on1, e_on2, e_onI, e_onB, e_onO, e_onO0, e_onOO, e_I0, e_I, e_add, e_addT, e_addS, e_addL, e_addLR, e_addRL, e_addRR, e_mul, e_mulL, e_mulT, e_rev, e_revT, e_ix, e_eqI, e_eqS, e_eqB, e_neI, e_neS, e_neB, e_ltI, e_chain, e_len, e_abs, e_2I, e_tuple1, e_tuple2, e_tuple3, e_listT, e_listN, e_allR, e_seqT, e_seqK, e_seqL, e_isi, e_isB, e_notB, e_truth, e_next, e_seq, e_drop, e_ret, e_retN, e_ifS, e_set, e_asg, e_par, e_nm, e_gsN, e_gsC, e_gTpK, e_gTpL, e_sum, e_maxL, e_minL, e_maxDef, e_int, e_intB, e_aug, e_on3, e_par3, e_newK, e_getK, e_keyI, e_keyS, e_inK, e_ninK, e_putK, e_lenK, e_lstS, e_seqX, e_gTpT, e_oN, e_oS, e_sl, e_slT, e_slL, e_finT, e_finN, e_index, e_idxT, e_idxL, e_mIx, e_ixST, e_ixSL, e_mtL, e_w, e_w1, e_w2, e_wE, e_wZ, e_itK, e_itT, e_itL, e_itT2, e_itL2, e_lc, e_for, e_wipe0, e_wipe, e_okI, e_okR, e_gSb, List.getElem?_cons_zero, List.getElem?_cons_succ, List.set_cons_zero, List.set_cons_succ]
    exact ⟨n, ns, rfl, by omega, ru.tb ns hn, q'⟩
  · exact all_end0 (fun d hd => by obtain ⟨_, _, rfl⟩ := List.mem_map.mp hd; rfl) (.inl q)
end DL
namespace DL
open PySem PySem.Spec PyProof.Rows L2 LamX PySem.W SL
def sortI (ns : List Int) : List Int := ns.mergeSort fun a b => decide (a ≤ b)
theorem sortI_perm (ns : List Int) : (sortI ns).Perm ns := List.mergeSort_perm _ _
theorem sortI_sorted (ns : List Int) : (sortI ns).Pairwise (· ≤ ·) := by
  have h := List.pairwise_mergeSort (le := fun a b : Int => decide (a ≤ b)) (fun a b c h1 h2 => by simp at h1 h2 ⊢; omega) (fun a b => by simp; omega) ns
  exact h.imp fun h => by simpa using h
theorem sorted_one : ∀ {xs ys : List Int}, xs.Perm ys → xs.Pairwise (· ≤ ·) → ys.Pairwise (· ≤ ·) → xs = ys
  | [], ys, p, _, _ => by rw [List.nil_perm.mp p]
  | x :: xs, [], p, _, _ => by have := p.length_eq; simp at this
  | x :: xs, y :: ys, p, h1, h2 => by
    have h1' := List.pairwise_cons.mp h1
    have h2' := List.pairwise_cons.mp h2
    have e : x = y := by
      rcases List.mem_cons.mp (p.mem_iff.mp List.mem_cons_self) with z | z
      · exact z
      · rcases List.mem_cons.mp (p.mem_iff.mpr (List.mem_cons_self (a := y) (l := ys))) with w | w
        · exact w.symm
        · have := h2'.1 x z
          have := h1'.1 y w
          omega
    subst e
    rw [sorted_one (List.Perm.cons_inv p) h1'.2 h2'.2]
theorem asc_one : ∀ {xs ys : List Int}, xs.Pairwise (· < ·) → ys.Pairwise (· < ·) → (∀ a, a ∈ xs ↔ a ∈ ys) → xs = ys
  | [], [], _, _, _ => rfl
  | [], y :: ys, _, _, h => by have := (h y).mpr List.mem_cons_self; cases this
  | x :: xs, [], _, _, h => by have := (h x).mp List.mem_cons_self; cases this
  | x :: xs, y :: ys, h1, h2, h => by
    have h1' := List.pairwise_cons.mp h1
    have h2' := List.pairwise_cons.mp h2
    have e : x = y := by
      rcases List.mem_cons.mp ((h x).mp List.mem_cons_self) with z | z
      · exact z
      · rcases List.mem_cons.mp ((h y).mpr List.mem_cons_self) with w | w
        · exact w.symm
        · have := h2'.1 x z
          have := h1'.1 y w
          omega
    subst e
    rw [asc_one h1'.2 h2'.2 fun a => ?_]
    constructor
    · intro ha
      rcases List.mem_cons.mp ((h a).mp (List.mem_cons_of_mem _ ha)) with z | z
      · have := h1'.1 a ha; omega
      · exact z
    · intro ha
      rcases List.mem_cons.mp ((h a).mpr (List.mem_cons_of_mem _ ha)) with z | z
      · have := h2'.1 a ha; omega
      · exact z
theorem sort_ev {fin : DK → List D → DSt → Prop} {x : D} {st : DSt} {ns : List Int} {Q : DK} (e : seqS st x = some (ns.map D.int)) (few : ns.length ≤ 100000) (q : fin Q ((sortI ns).map D.int) st) : dSortI fin [x] st Q := by
  unfold dSortI
  simp only [e_on1, e, e_onO, intsD_ints]
  refine ⟨few, fun out p s => ?_⟩
  rw [sorted_one (p.trans (sortI_perm ns).symm) s (sortI_sorted ns)]
  exact q
def R (n : Nat) : List Int := (List.range n).map fun i : Nat => (i : Int)
theorem R_mem {n : Nat} {x : Int} : x ∈ R n ↔ 0 ≤ x ∧ x < n := by
  unfold R
  rw [List.mem_map]
  constructor
  · rintro ⟨i, hi, rfl⟩
    have := List.mem_range.mp hi
    omega
  · rintro ⟨h0, h1⟩
    exact ⟨x.toNat, List.mem_range.mpr (by omega), by omega⟩
theorem R_nodup (n : Nat) : (R n).Nodup := by
  unfold R
  refine List.Pairwise.map _ (fun a b h => ?_) List.nodup_range
  omega
theorem R_length (n : Nat) : (R n).length = n := by unfold R; rw [List.length_map, List.length_range]
def pos (ns : List Int) (x : Int) : Nat := (ixOf x ns).getD 0
theorem pos_at {ns : List Int} {x : Int} (h : x ∈ ns) : ns[pos ns x]? = some x ∧ ixOf x ns = some (pos ns x) := by
  obtain ⟨j, e⟩ := ixOf_mem h
  unfold pos
  rw [e]
  exact ⟨(ixOf_spec e).1, rfl⟩
theorem nd_at {α : Type} {ns : List α} (nd : ns.Nodup) {i j : Nat} {x : α} (h1 : ns[i]? = some x) (h2 : ns[j]? = some x) : i = j := by
  obtain ⟨l1, q1⟩ := List.getElem?_eq_some_iff.mp h1
  obtain ⟨l2, q2⟩ := List.getElem?_eq_some_iff.mp h2
  exact (List.getElem_inj nd).mp (q1.trans q2.symm)
theorem mem_behind {ns : List Int} (nd : ns.Nodup) {x : Int} {i : Nat} : x ∈ ns.drop (i + 1) ↔ x ∈ ns ∧ i < pos ns x := by
  constructor
  · intro h
    have hx := List.mem_of_mem_drop h
    obtain ⟨j, hj⟩ := List.mem_iff_getElem?.mp h
    rw [List.getElem?_drop] at hj
    have := nd_at nd (pos_at hx).1 hj
    exact ⟨hx, by omega⟩
  · rintro ⟨hx, lt⟩
    refine List.mem_iff_getElem?.mpr ⟨pos ns x - (i + 1), ?_⟩
    rw [List.getElem?_drop, show i + 1 + (pos ns x - (i + 1)) = pos ns x by omega]
    exact (pos_at hx).1
theorem pos_inj {ns : List Int} {x y : Int} (hx : x ∈ ns) (hy : y ∈ ns) (e : pos ns x = pos ns y) : x = y := by
  have h1 := (pos_at hx).1
  rw [e, (pos_at hy).1] at h1
  exact (Option.some.inj h1).symm
def ordT (ns : List Int) : List (List Int) := (List.range ns.length).map fun k : Nat => sortI (ns.drop (pos ns (k : Int) + 1))
theorem ordT_length (ns : List Int) : (ordT ns).length = ns.length := by unfold ordT; rw [List.length_map, List.length_range]
theorem ordT_at {ns : List Int} {a : Nat} (h : a < ns.length) : (ordT ns).getD a [] = sortI (ns.drop (pos ns (a : Int) + 1)) := by
  unfold ordT
  rw [List.getD_eq_getElem?_getD, List.getElem?_map, List.getElem?_eq_getElem (by rw [List.length_range]; exact h), List.getElem_range]
  rfl
structure Ord (n : Nat) (ns : List Int) : Prop where
  perm : ns.Perm (R n)
theorem Ord.len {n : Nat} {ns : List Int} (o : Ord n ns) : ns.length = n := by rw [o.perm.length_eq, R_length]
theorem Ord.nd {n : Nat} {ns : List Int} (o : Ord n ns) : ns.Nodup := o.perm.nodup_iff.mpr (R_nodup n)
theorem Ord.mem {n : Nat} {ns : List Int} (o : Ord n ns) {x : Int} : x ∈ ns ↔ 0 ≤ x ∧ x < n := by rw [o.perm.mem_iff, R_mem]
theorem Ord.beats {n : Nat} {ns : List Int} (o : Ord n ns) {a : Nat} (h : a < n) {x : Int} : x ∈ (ordT ns).getD a [] ↔ (0 ≤ x ∧ x < n) ∧ pos ns a < pos ns x := by
  rw [ordT_at (by rw [o.len]; exact h), (sortI_perm _).mem_iff, mem_behind o.nd, o.mem]
theorem sort_asc {ns : List Int} (nd : ns.Nodup) : (sortI ns).Pairwise (· < ·) := by
  have h1 := sortI_sorted ns
  have h2 : (sortI ns).Nodup := (sortI_perm ns).nodup_iff.mpr nd
  have h3 := h1.and h2
  exact h3.imp fun h => by have := h.1; have := h.2; omega
theorem Ord.tb {n : Nat} {ns : List Int} (o : Ord n ns) : Tb n (ordT ns) := by
  refine ⟨by rw [ordT_length, o.len], fun a ha => ?_, fun a ha x hx => ?_, fun a b ha hb => ?_⟩
  · rw [ordT_at (by rw [o.len]; exact ha)]
    exact sort_asc (List.Nodup.sublist (List.drop_sublist _ _) o.nd)
  · exact ((o.beats ha).mp hx).1
  · unfold dec
    by_cases e : a = b
    · rw [if_pos e]
      have z : ¬ (a : Int) ∈ (ordT ns).getD a [] := fun h => by
        have := ((o.beats ha).mp h).2
        omega
      rw [decide_eq_false z]
      rfl
    · rw [if_neg e]
      have ma : (a : Int) ∈ ns := o.mem.mpr (by omega)
      have mb : (b : Int) ∈ ns := o.mem.mpr (by omega)
      have ne : pos ns a ≠ pos ns b := fun z => by
        have := pos_inj ma mb z
        omega
      rcases Nat.lt_or_gt_of_ne ne with z | z
      · have h1 : (b : Int) ∈ (ordT ns).getD a [] := (o.beats ha).mpr ⟨by omega, z⟩
        have h2 : ¬ (a : Int) ∈ (ordT ns).getD b [] := fun h => by have := ((o.beats hb).mp h).2; omega
        rw [decide_eq_true h1, decide_eq_false h2]
        rfl
      · have h1 : ¬ (b : Int) ∈ (ordT ns).getD a [] := fun h => by have := ((o.beats ha).mp h).2; omega
        have h2 : (a : Int) ∈ (ordT ns).getD b [] := (o.beats hb).mpr ⟨by omega, z⟩
        rw [decide_eq_false h1, decide_eq_true h2]
        rfl
theorem cutN (xs : List D) (k : Nat) : cutD xs (some (k : Int)) none = xs.drop k := by
  unfold cutD
  have z : HT.sIx xs.length 0 (some (k : Int)) = min k xs.length := HT.sIx_nat xs.length 0 k
  rw [z, HT.sIx_none]
  by_cases h : k ≤ xs.length
  · rw [Nat.min_eq_left h]
    exact List.take_of_length_le (by rw [List.length_drop]; omega)
  · rw [Nat.min_eq_right (by omega), List.drop_length, List.drop_eq_nil_of_le (by omega)]
    simp
end DL
namespace DL
open PySem PySem.Spec PyProof.Rows L2 LamX PySem.W SL
def Ring (t : List (List Int)) (a b c : Int) : Prop := 0 ≤ a ∧ a < t.length ∧ b ∈ t.getD a.toNat [] ∧ c ∈ t.getD b.toNat [] ∧ a ∈ t.getD c.toNat []
def noRing (t : List (List Int)) : Bool := (List.range t.length).all fun a => (t.getD a []).all fun b => (t.getD b.toNat []).all fun c => !decide ((a : Int) ∈ t.getD c.toNat [])
theorem noRing_iff {t : List (List Int)} : noRing t = true ↔ ∀ a b c, ¬ Ring t a b c := by
  unfold noRing
  simp only [List.all_eq_true, List.mem_range, Bool.not_eq_true', decide_eq_false_iff_not]
  constructor
  · rintro h a b c ⟨a0, a1, hb, hc, ha⟩
    refine h a.toNat (by omega) b hb c hc ?_
    rw [Int.toNat_of_nonneg a0]
    exact ha
  · intro h a la b hb c hc ha
    exact h a b c ⟨by omega, by omega, by simpa using hb, hc, ha⟩
theorem Tb.at_ {n : Nat} {t : List (List Int)} (tb : Tb n t) {x : Int} (h0 : 0 ≤ x) (h1 : x < n) : atI (t.map rowD) x = some (rowD (t.getD x.toNat [])) := by
  have z := rows_at (nss := t) (a := x.toNat) (by rw [tb.len]; omega)
  rw [Int.toNat_of_nonneg h0] at z
  exact z
theorem Tb.mem {n : Nat} {t : List (List Int)} (tb : Tb n t) {x y : Int} (h0 : 0 ≤ x) (h1 : x < n) (h : y ∈ t.getD x.toNat []) : 0 ≤ y ∧ y < n := tb.inr x.toNat (by omega) y h
theorem Ord.noRing {n : Nat} {ns : List Int} (o : Ord n ns) : DL.noRing (ordT ns) = true := by
  refine noRing_iff.mpr fun a b c h => ?_
  obtain ⟨a0, a1, hb, hc, ha⟩ := h
  rw [ordT_length, o.len] at a1
  have b1 := (o.beats (a := a.toNat) (by omega)).mp hb
  have c1 := (o.beats (a := b.toNat) (by omega)).mp hc
  have d1 := (o.beats (a := c.toNat) (by omega)).mp ha
  rw [Int.toNat_of_nonneg a0] at b1
  rw [Int.toNat_of_nonneg b1.1.1] at c1
  rw [Int.toNat_of_nonneg c1.1.1] at d1
  omega
end DL
namespace DL
open PySem PySem.Spec PyProof.Rows L2 LamX PySem.W SL
def ixP (ps : List (List Int)) (s : Int) (k : Nat) : Nat := pos (ps.getD k []) s
def Far (ps : List (List Int)) (s : Int) (a b : Nat) : Prop := ixP ps s b < ixP ps s a ∨ (ixP ps s a = ixP ps s b ∧ a < b)
theorem line_ord {n : Nat} {b : Int} (n0 : 0 < n) : Ord n (lineI n b) := by
  refine ⟨(List.perm_ext_iff_of_nodup ?_ (R_nodup n)).mpr fun x => ?_⟩
  · unfold lineI
    refine List.Pairwise.map _ (fun (i : Nat) (j : Nat) (h : i < n ∧ j < n ∧ i ≠ j) => ?_) (List.Pairwise.imp_of_mem (fun {i j} hi hj h => (⟨List.mem_range.mp hi, List.mem_range.mp hj, h⟩ : i < n ∧ j < n ∧ i ≠ j)) List.nodup_range)
    intro e
    have z : ((b + (i : Int)) - (b + (j : Int))) % (n : Int) = 0 := Int.emod_eq_emod_iff_emod_sub_eq_zero.mp e
    have z2 := Int.dvd_of_emod_eq_zero z
    obtain ⟨c, hc⟩ := z2
    have hij : (i : Int) - (j : Int) = (n : Int) * c := by omega
    have c0 : c = 0 := by
      rcases Int.lt_trichotomy c 0 with w | w | w
      · have : (n : Int) * c ≤ (n : Int) * (-1) := Int.mul_le_mul_of_nonneg_left (by omega) (by omega)
        omega
      · exact w
      · have : (n : Int) * 1 ≤ (n : Int) * c := Int.mul_le_mul_of_nonneg_left (by omega) (by omega)
        omega
    rw [c0] at hij
    omega
  · rw [R_mem]
    unfold lineI
    rw [List.mem_map]
    constructor
    · rintro ⟨i, _, rfl⟩
      exact ⟨Int.emod_nonneg _ (by omega), Int.emod_lt_of_pos _ (by omega)⟩
    · rintro ⟨h0, h1⟩
      have m0 := Int.emod_nonneg (x - b) (b := (n : Int)) (by omega)
      have m1 := Int.emod_lt_of_pos (x - b) (b := (n : Int)) (by omega)
      refine ⟨((x - b) % (n : Int)).toNat, List.mem_range.mpr (by omega), ?_⟩
      rw [Int.toNat_of_nonneg m0, Int.add_emod_emod]
      rw [show b + (x - b) = x by omega]
      exact Int.emod_eq_of_lt h0 h1
def g_probe : DRs := fun ds st Q => ∃ (p n k : Nat), ds = [.ref p, .int n] ∧ 0 < n ∧ n ≤ 64 ∧ Pot (k + n + 2) p st ∧ ∀ (ns : List Int) (o : O), Ord n ns → PotO k o → Q (rowD ns) (st.set p o)
theorem ar_probe (ds : List D) (st : DSt) (Q : DK) (h : g_probe ds st Q) : ds.length = 2 := by
  obtain ⟨_, _, _, rfl, _⟩ := h
  rfl
theorem rg_ints (n : Nat) : rgD 0 n = (R n).map D.int := by
  rw [rgD0]
  unfold R
  rw [List.map_map]
  rfl
theorem sem_probe (ds : List D) (st : DSt) (Q : DK) (h : g_probe ds st Q) : F__law_probe g_take g_mixed g_line { nx := fun _ st' => Rt st Q .non st', rt := Rt st Q } (startD 2 ds) st := by
  obtain ⟨p, n, k, rfl, n0, n1, pot, q⟩ := h
  have st2 : startD 2 [D.ref p, D.int (n : Nat)] = [some (.ref p), some (.int n)] := rfl
  have lt := pot.lt
  simp only [F__law_probe, st2, e_var, e_C, e_op, e_neg, e_isN, e_notN, e_and, e_or, e_not, e_test, e_tAnd, e_tOr, e_tNot, e_tYes, e_if, e_aNil, e_aCons, e_tup, e_lst, e_lstN, e_len0, e_len1, e_len2, e_len3, e_len4, e_len5, e_cb, e_on1, e_on2, e_onI, e_onB, e_onO, e_onO0, e_onOO, e_I0, e_I, e_add, e_addT, e_addS, e_addL, e_addLR, e_addRL, e_addRR, e_mul, e_mulL, e_mulT, e_rev, e_revT, e_ix, e_eqI, e_eqS, e_eqB, e_neI, e_neS, e_neB, e_ltI, e_chain, e_len, e_abs, e_2I, e_tuple1, e_tuple2, e_tuple3, e_listT, e_listN, e_allR, e_seqT, e_seqK, e_seqL, e_isi, e_isB, e_notB, e_truth, e_next, e_seq, e_drop, e_ret, e_retN, e_ifS, e_set, e_asg, e_par, e_nm, e_gsN, e_gsC, e_gTpK, e_gTpL, e_sum, e_maxL, e_minL, e_maxDef, e_int, e_intB, e_aug, e_on3, e_par3, e_newK, e_getK, e_keyI, e_keyS, e_inK, e_ninK, e_putK, e_lenK, e_lstS, e_seqX, e_gTpT, e_oN, e_oS, e_sl, e_slT, e_slL, e_finT, e_finN, e_index, e_idxT, e_idxL, e_mIx, e_ixST, e_ixSL, e_mtL, e_w, e_w1, e_w2, e_wE, e_wZ, e_itK, e_itT, e_itL, e_itT2, e_itL2, e_lc, e_for, e_wipe0, e_wipe, e_okI, e_okR, e_gSb, List.getElem?_cons_zero, List.getElem?_cons_succ, List.set_cons_zero, List.set_cons_succ]
  refine ⟨p, 3, k + n + 1, rfl, pot, by decide, by decide, fun r o r0 r1 po => ?_⟩
  simp only [e_var, e_C, e_op, e_neg, e_isN, e_notN, e_and, e_or, e_not, e_test, e_tAnd, e_tOr, e_tNot, e_tYes, e_if, e_aNil, e_aCons, e_tup, e_lst, e_lstN, e_len0, e_len1, e_len2, e_len3, e_len4, e_len5, e_cb, e_on1, e_on2, e_onI, e_onB, e_onO, e_onO0, e_onOO, e_I0, e_I, e_add, e_addT, e_addS, e_addL, e_addLR, e_addRL, e_addRR, e_mul, e_mulL, e_mulT, e_rev, e_revT, e_ix, e_eqI, e_eqS, e_eqB, e_neI, e_neS, e_neB, e_ltI, e_chain, e_len, e_abs, e_2I, e_tuple1, e_tuple2, e_tuple3, e_listT, e_listN, e_allR, e_seqT, e_seqK, e_seqL, e_isi, e_isB, e_notB, e_truth, e_next, e_seq, e_drop, e_ret, e_retN, e_ifS, e_set, e_asg, e_par, e_nm, e_gsN, e_gsC, e_gTpK, e_gTpL, e_sum, e_maxL, e_minL, e_maxDef, e_int, e_intB, e_aug, e_on3, e_par3, e_newK, e_getK, e_keyI, e_keyS, e_inK, e_ninK, e_putK, e_lenK, e_lstS, e_seqX, e_gTpT, e_oN, e_oS, e_sl, e_slT, e_slL, e_finT, e_finN, e_index, e_idxT, e_idxL, e_mIx, e_ixST, e_ixSL, e_mtL, e_w, e_w1, e_w2, e_wE, e_wZ, e_itK, e_itT, e_itL, e_itT2, e_itL2, e_lc, e_for, e_wipe0, e_wipe, e_okI, e_okR, e_gSb, List.getElem?_cons_zero, List.getElem?_cons_succ, List.set_cons_zero, List.set_cons_succ]
  by_cases e : r = 0
  · refine iteT' (decide_eq_true e) ⟨p, n, k + n, rfl, Pot.set lt po, by omega, by omega, fun r2 o2 _ _ po2 => ?_⟩
    rw [List.set_set]
    exact ⟨n, r2, rfl, n0, by omega, .inl (q _ _ (line_ord n0) (po2.less (by omega)))⟩
  · refine iteF' (decide_eq_false e) ?_
    unfold dLRg1
    simp only [e_var, e_C, e_op, e_neg, e_isN, e_notN, e_and, e_or, e_not, e_test, e_tAnd, e_tOr, e_tNot, e_tYes, e_if, e_aNil, e_aCons, e_tup, e_lst, e_lstN, e_len0, e_len1, e_len2, e_len3, e_len4, e_len5, e_cb, e_on1, e_on2, e_onI, e_onB, e_onO, e_onO0, e_onOO, e_I0, e_I, e_add, e_addT, e_addS, e_addL, e_addLR, e_addRL, e_addRR, e_mul, e_mulL, e_mulT, e_rev, e_revT, e_ix, e_eqI, e_eqS, e_eqB, e_neI, e_neS, e_neB, e_ltI, e_chain, e_len, e_abs, e_2I, e_tuple1, e_tuple2, e_tuple3, e_listT, e_listN, e_allR, e_seqT, e_seqK, e_seqL, e_isi, e_isB, e_notB, e_truth, e_next, e_seq, e_drop, e_ret, e_retN, e_ifS, e_set, e_asg, e_par, e_nm, e_gsN, e_gsC, e_gTpK, e_gTpL, e_sum, e_maxL, e_minL, e_maxDef, e_int, e_intB, e_aug, e_on3, e_par3, e_newK, e_getK, e_keyI, e_keyS, e_inK, e_ninK, e_putK, e_lenK, e_lstS, e_seqX, e_gTpT, e_oN, e_oS, e_sl, e_slT, e_slL, e_finT, e_finN, e_index, e_idxT, e_idxL, e_mIx, e_ixST, e_ixSL, e_mtL, e_w, e_w1, e_w2, e_wE, e_wZ, e_itK, e_itT, e_itL, e_itT2, e_itL2, e_lc, e_for, e_wipe0, e_wipe, e_okI, e_okR, e_gSb, List.getElem?_cons_zero, List.getElem?_cons_succ, List.set_cons_zero, List.set_cons_succ, Int.toNat_natCast]
    refine ⟨RgOk.of_le (by decide) (by omega) (by decide) (by omega), p, _, rgD 0 n, k, rfl, rfl, fun z => (by cases z), by rw [rgD_length]; omega, fun d hd => ?_, by rw [rgD_length]; exact (Pot.set lt po).less (by omega), fun ys o2 pm po2 => ?_⟩
    · obtain ⟨i, li, rfl⟩ := rgD_mem hd
      exact (sm_int (by omega) (by omega)).mono (by decide) (by decide)
    · rw [List.set_set]
      simp only [e_var, e_C, e_op, e_neg, e_isN, e_notN, e_and, e_or, e_not, e_test, e_tAnd, e_tOr, e_tNot, e_tYes, e_if, e_aNil, e_aCons, e_tup, e_lst, e_lstN, e_len0, e_len1, e_len2, e_len3, e_len4, e_len5, e_cb, e_on1, e_on2, e_onI, e_onB, e_onO, e_onO0, e_onOO, e_I0, e_I, e_add, e_addT, e_addS, e_addL, e_addLR, e_addRL, e_addRR, e_mul, e_mulL, e_mulT, e_rev, e_revT, e_ix, e_eqI, e_eqS, e_eqB, e_neI, e_neS, e_neB, e_ltI, e_chain, e_len, e_abs, e_2I, e_tuple1, e_tuple2, e_tuple3, e_listT, e_listN, e_allR, e_seqT, e_seqK, e_seqL, e_isi, e_isB, e_notB, e_truth, e_next, e_seq, e_drop, e_ret, e_retN, e_ifS, e_set, e_asg, e_par, e_nm, e_gsN, e_gsC, e_gTpK, e_gTpL, e_sum, e_maxL, e_minL, e_maxDef, e_int, e_intB, e_aug, e_on3, e_par3, e_newK, e_getK, e_keyI, e_keyS, e_inK, e_ninK, e_putK, e_lenK, e_lstS, e_seqX, e_gTpT, e_oN, e_oS, e_sl, e_slT, e_slL, e_finT, e_finN, e_index, e_idxT, e_idxL, e_mIx, e_ixST, e_ixSL, e_mtL, e_w, e_w1, e_w2, e_wE, e_wZ, e_itK, e_itT, e_itL, e_itT2, e_itL2, e_lc, e_for, e_wipe0, e_wipe, e_okI, e_okR, e_gSb, List.getElem?_cons_zero, List.getElem?_cons_succ, List.set_cons_zero, List.set_cons_succ]
      rw [rg_ints] at pm
      obtain ⟨ns, rfl, pn⟩ : ∃ ns : List Int, ys = ns.map D.int ∧ ns.Perm (R n) := by
        have all : ∀ (xs : List Int) (ys : List D), ys.Perm (xs.map D.int) → ∃ ns : List Int, ys = ns.map D.int ∧ ns.Perm xs := by
          intro xs ys pm
          have z : ∀ y ∈ ys, ∃ i : Int, y = .int i := fun y hy => by
            obtain ⟨i, _, rfl⟩ := List.mem_map.mp (pm.mem_iff.mp hy)
            exact ⟨i, rfl⟩
          refine ⟨ys.map fun d => match d with | .int i => i | _ => 0, ?_, ?_⟩
          · rw [List.map_map]
            refine (List.map_id ys).symm.trans (List.map_congr_left fun y hy => ?_)
            obtain ⟨i, rfl⟩ := z y hy
            rfl
          · have w := pm.map (fun d : D => match d with | .int i => i | _ => 0)
            rw [List.map_map] at w
            rw [show ((fun d : D => match d with | .int i => i | _ => 0) ∘ D.int) = id from rfl, List.map_id] at w
            exact w
        exact all _ _ pm
      exact .inl (q _ _ ⟨pn⟩ po2)
end DL
namespace DL
open PySem PySem.Spec PyProof.Rows L2 LamX PySem.W SL
def Beats (t : List (List Int)) (a b : Nat) : Prop := (b : Int) ∈ t.getD a []
theorem Tb.dec2 {n : Nat} {t : List (List Int)} (tb : Tb n t) {a b : Nat} (ha : a < n) (hb : b < n) (ne : a ≠ b) : Beats t a b ↔ ¬ Beats t b a := by
  have z := tb.one a b ha hb
  unfold dec at z
  rw [if_neg ne] at z
  unfold Beats
  by_cases h1 : (b : Int) ∈ t.getD a []
  · by_cases h2 : (a : Int) ∈ t.getD b []
    · rw [decide_eq_true h1, decide_eq_true h2] at z; cases z
    · exact ⟨fun _ => h2, fun _ => h1⟩
  · by_cases h2 : (a : Int) ∈ t.getD b []
    · exact ⟨fun w => absurd w h1, fun w => absurd h2 w⟩
    · rw [decide_eq_false h1, decide_eq_false h2] at z; cases z
theorem Tb.irr {n : Nat} {t : List (List Int)} (tb : Tb n t) {a : Nat} (ha : a < n) : ¬ Beats t a a := by
  have z := tb.one a a ha ha
  unfold dec at z
  rw [if_pos rfl] at z
  unfold Beats
  simpa using z
theorem Tb.trans {n : Nat} {t : List (List Int)} (tb : Tb n t) (no : noRing t = true) {a b c : Nat} (ha : a < n) (hb : b < n) (hc : c < n) (h1 : Beats t a b) (h2 : Beats t b c) : Beats t a c := by
  by_cases e : a = c
  · subst e
    have ne : a ≠ b := fun z => by subst z; exact tb.irr ha h1
    exact absurd h2 ((tb.dec2 ha hb ne).mp h1)
  · refine (tb.dec2 ha hc e).mpr fun h3 => noRing_iff.mp no a b c ⟨by omega, by rw [tb.len]; omega, ?_, ?_, ?_⟩
    · rw [Int.toNat_natCast]; exact h1
    · rw [Int.toNat_natCast]; exact h2
    · rw [Int.toNat_natCast]; exact h3
theorem sub_len {xs ys : List Int} (hx : xs.Nodup) (h : ∀ x ∈ xs, x ∈ ys) : xs.length ≤ ys.length := by
  induction xs generalizing ys with
  | nil => simp
  | cons a r ih =>
    have ha := h a List.mem_cons_self
    have z := ih (ys := ys.erase a) (List.nodup_cons.mp hx).2 fun x hx' => by
      have ne : x ≠ a := fun e => (List.nodup_cons.mp hx).1 (e ▸ hx')
      exact (List.mem_erase_of_ne ne).mpr (h x (List.mem_cons_of_mem _ hx'))
    rw [List.length_erase_of_mem ha] at z
    have := List.length_pos_of_mem ha
    rw [List.length_cons]
    omega
theorem asc_nodup {xs : List Int} (h : xs.Pairwise (· < ·)) : xs.Nodup := h.imp fun h => by omega
theorem Tb.more {n : Nat} {t : List (List Int)} (tb : Tb n t) (no : noRing t = true) {a b : Nat} (ha : a < n) (hb : b < n) (h : Beats t a b) : (t.getD b []).length < (t.getD a []).length := by
  have nb : (b : Int) ∉ t.getD b [] := tb.irr hb
  have z := sub_len (xs := (b : Int) :: t.getD b []) (ys := t.getD a []) (List.nodup_cons.mpr ⟨nb, asc_nodup (tb.asc b hb)⟩) fun x hx => by
    rcases List.mem_cons.mp hx with e | e
    · rw [e]; exact h
    · have r := tb.inr b hb x e
      have w := tb.trans no ha hb (c := x.toNat) (by omega) h (by unfold Beats; rw [Int.toNat_of_nonneg r.1]; exact e)
      unfold Beats at w
      rw [Int.toNat_of_nonneg r.1] at w
      exact w
  rw [List.length_cons] at z
  omega
def ordN (t : List (List Int)) : List Nat := (List.range t.length).mergeSort fun a b => decide (-((t.getD a []).length : Int) ≤ -((t.getD b []).length : Int))
def ordOf (t : List (List Int)) : List Int := (ordN t).map fun i : Nat => (i : Int)
theorem ordOf_ord {n : Nat} {t : List (List Int)} (l : t.length = n) : Ord n (ordOf t) := by
  refine ⟨?_⟩
  unfold ordOf R
  rw [← l]
  exact (List.mergeSort_perm _ _).map _
theorem ordOf_pos {n : Nat} {t : List (List Int)} (tb : Tb n t) (no : noRing t = true) {a b : Nat} (ha : a < n) (hb : b < n) (ne : a ≠ b) : pos (ordOf t) a < pos (ordOf t) b ↔ Beats t a b := by
  have o := ordOf_ord tb.len
  have ma : (a : Int) ∈ ordOf t := o.mem.mpr (by omega)
  have mb : (b : Int) ∈ ordOf t := o.mem.mpr (by omega)
  have pw : (ordN t).Pairwise fun a b => decide (-((t.getD a []).length : Int) ≤ -((t.getD b []).length : Int)) = true := by
    refine List.pairwise_mergeSort (fun a b c h1 h2 => ?_) (fun a b => ?_) _
    · simp only [decide_eq_true_eq] at h1 h2 ⊢
      omega
    · simp only [Bool.or_eq_true, decide_eq_true_eq]
      omega
  have up : ∀ x y : Nat, (x : Int) ∈ ordOf t → (y : Int) ∈ ordOf t → pos (ordOf t) x < pos (ordOf t) y → (t.getD y []).length ≤ (t.getD x []).length := by
    intro x y hx hy lt
    have px := (pos_at hx).1
    have py := (pos_at hy).1
    unfold ordOf at px py
    rw [List.getElem?_map] at px py
    cases ex : (ordN t)[pos (ordOf t) x]? with
    | none => unfold ordOf at ex; rw [ex] at px; cases px
    | some u =>
      cases ey : (ordN t)[pos (ordOf t) y]? with
      | none => unfold ordOf at ey; rw [ey] at py; cases py
      | some v =>
        have ex' := ex
        have ey' := ey
        unfold ordOf at ex ey
        rw [ex] at px
        rw [ey] at py
        have e1 : u = x := by
          have h : (u : Int) = x := Option.some.inj px
          omega
        have e2 : v = y := by
          have h : (v : Int) = y := Option.some.inj py
          omega
        subst e1
        subst e2
        obtain ⟨l1, q1⟩ := List.getElem?_eq_some_iff.mp ex'
        obtain ⟨l2, q2⟩ := List.getElem?_eq_some_iff.mp ey'
        have z := List.pairwise_iff_getElem.mp pw _ _ l1 l2 lt
        rw [q1, q2] at z
        simp only [decide_eq_true_eq] at z
        omega
  constructor
  · intro lt
    have z := up a b ma mb lt
    refine (tb.dec2 ha hb ne).mpr fun h => ?_
    have := tb.more no hb ha h
    omega
  · intro h
    have m := tb.more no ha hb h
    rcases Nat.lt_trichotomy (pos (ordOf t) a) (pos (ordOf t) b) with z | z | z
    · exact z
    · have := pos_inj ma mb z
      omega
    · have := up b a mb ma z
      omega
theorem Tb.ordT {n : Nat} {t : List (List Int)} (tb : Tb n t) (no : noRing t = true) : t = DL.ordT (ordOf t) := by
  have o := ordOf_ord tb.len
  refine List.ext_getElem (by rw [ordT_length, o.len, tb.len]) fun a h1 h2 => ?_
  have ha : a < n := by rw [← tb.len]; exact h1
  have e1 : t[a] = t.getD a [] := by rw [List.getD_eq_getElem?_getD, List.getElem?_eq_getElem h1]; rfl
  have e2 : (DL.ordT (ordOf t))[a] = (DL.ordT (ordOf t)).getD a [] := by rw [List.getD_eq_getElem?_getD, List.getElem?_eq_getElem h2]; rfl
  rw [e1, e2]
  refine asc_one (tb.asc a ha) (o.tb.asc a ha) fun x => ?_
  rw [o.beats ha]
  constructor
  · intro hx
    have r := tb.inr a ha x hx
    have e : ((x.toNat : Nat) : Int) = x := Int.toNat_of_nonneg r.1
    refine ⟨r, ?_⟩
    rw [← e] at hx ⊢
    have ne : a ≠ x.toNat := fun z => by
      rw [← z] at hx
      exact tb.irr ha hx
    exact (ordOf_pos tb no ha (by omega) ne).mpr hx
  · rintro ⟨r, lt⟩
    have e : ((x.toNat : Nat) : Int) = x := Int.toNat_of_nonneg r.1
    rw [← e] at lt ⊢
    have ne : a ≠ x.toNat := fun z => by
      rw [← z] at lt
      omega
    exact (ordOf_pos tb no ha (by omega) ne).mp lt
end DL
namespace DL
open PySem PySem.Spec PyProof.Rows L2 LamX PySem.W SL
theorem sm_row {ns : List Int} {m : Nat} (h : ∀ x ∈ ns, -100 ≤ x ∧ x ≤ 1000) (l : ns.length ≤ m) : Sm 1 (m * 22 + 3) (rowD ns) := by
  unfold rowD
  refine sm_tup (k := 0) (c := 20) (fun d hd => ?_) (by rw [List.length_map]; exact l)
  obtain ⟨i, hi, rfl⟩ := List.mem_map.mp hd
  exact sm_int (h i hi).1 (h i hi).2
theorem sm_rows {nss : List (List Int)} {m k : Nat} (h : ∀ ns ∈ nss, (∀ x ∈ ns, -100 ≤ x ∧ x ≤ 1000) ∧ ns.length ≤ m) (l : nss.length ≤ k) : Sm 2 (k * ((m * 22 + 3) + 2) + 3) (rowsD nss) := by
  unfold rowsD
  refine sm_tup (k := 1) (fun d hd => ?_) (by rw [List.length_map]; exact l)
  obtain ⟨i, hi, rfl⟩ := List.mem_map.mp hd
  exact sm_row (h i hi).1 (h i hi).2
theorem Ord.sm {n : Nat} {ns : List Int} (o : Ord n ns) (h : n ≤ 16) : Sm 1 355 (rowD ns) := by
  have z := sm_row (ns := ns) (m := 16) (fun x hx => by have := o.mem.mp hx; omega) (by rw [o.len]; exact h)
  exact z
theorem Tb.sm {n : Nat} {t : List (List Int)} (o : Tb n t) (h : n ≤ 16) : Sm 2 5715 (rowsD t) := by
  have z := sm_rows (nss := t) (m := 16) (k := 16) (fun ns hn => ⟨fun x hx => by have := (o.row hn).2 x hx; omega, by have := o.few hn; omega⟩) (by rw [o.len]; exact h)
  exact z
theorem sm_tabs {n : Nat} {ts : List (List (List Int))} (h : ∀ t ∈ ts, Tb n t) (hn : n ≤ 16) (l : ts.length ≤ 16) : Sm 3 91475 (tabsD ts) := by
  unfold tabsD
  refine sm_tup (k := 2) (c := 5715) (m := 16) (fun d hd => ?_) (by rw [List.length_map]; exact l)
  obtain ⟨i, hi, rfl⟩ := List.mem_map.mp hd
  exact (h i hi).sm hn
def txt (d : D) : Str := match pdT d with | some p => p.shown | none => ""
theorem repr_txt {st : DSt} {d : D} {Q : DK} {k c : Nat} (h : Sm k c d) (nr : ∀ n, d ≠ .ref n) (hk : k ≤ 40) (hc : c ≤ 1000000) (q : Q (.str (txt d)) st) : dRepr [d] st Q := by
  obtain ⟨p, e, el⟩ := h
  have e2 : pdS st d = some p := by
    cases d with
    | ref n => exact absurd rfl (nr n)
    | _ => exact e
  have e3 : txt d = p.shown := by unfold txt; rw [e]
  rw [e3] at q
  simp only [e_repr, e2, e_onO]
  refine ⟨⟨el.sh, by have := el.dp; omega, ?_⟩, q⟩
  have := el.ln
  have : (1000000 : Nat) ≤ sizeLine := by decide
  omega
end DL
namespace DL
open PySem PySem.Spec PyProof.Rows L2 LamX PySem.W SL
def g_right : DRs := fun ds st Q => ∃ p : Nat, ds = [.ref p] ∧ Pot 100000 p st ∧ ∀ o : O, PotO 0 o → Q (.bl true) (st.set p o)
theorem ar_right (ds : List D) (st : DSt) (Q : DK) (h : g_right ds st Q) : ds.length = 1 := by
  obtain ⟨_, rfl, _⟩ := h
  rfl
theorem set_same {st : DSt} {p : Nat} {o : O} (e : st[p]? = some o) : st.set p o = st := by
  refine List.ext_getElem? fun i => ?_
  by_cases w : i = p
  · subst w; rw [List.getElem?_set_self (List.getElem?_eq_some_iff.mp e).1, e]
  · rw [List.getElem?_set_ne (fun w' => w w'.symm)]
instance {ps : List (List Int)} {s : Int} {a b : Nat} : Decidable (Far ps s a b) := by unfold Far; infer_instance
theorem compS {g : DTG} {tt : DTT} {te : DTE} {r : DEnv} {Q : List D → DSt → Prop} {st : DSt} {I : DIt} {α : Type} (ok : okS I st) (f : α → D) (p : α → Bool) (h : α → D) :
    ∀ (items : List α) (acc : List D), (∀ a ∈ items, ∀ Q' : DEnv → DSt → Prop, (∀ r2, EvT tt r2 st (p a) → (p a = true → Ev te r2 st (h a)) → Q' r2 st) → g (f a) r st Q') → Q (acc ++ (items.filter p).map h) st → compL I g tt te r Q (items.map f) acc st
  | [], acc, _, q => by
    have q' : Q acc st := by simpa using q
    show okI I st (Q acc st)
    unfold okI
    rcases ok with e | ⟨n, xs, e, w⟩
    · rw [e]; exact q'
    · rw [e]; exact ⟨w, q'⟩
  | a :: as, acc, hh, q => by
    have z : g (f a) r st fun r2 st2 => tt r2 st2 fun b st3 => if b = true then te r2 st3 fun y st4 => compL I g tt te r Q (as.map f) (acc ++ [y]) st4 else compL I g tt te r Q (as.map f) acc st3 := by
      refine hh a List.mem_cons_self _ fun r2 e1 e2 => e1 _ ?_
      cases e : p a with
      | true =>
        refine iteT (e2 e _ (compS ok f p h as _ (fun d' hd => hh d' (List.mem_cons_of_mem _ hd)) ?_))
        rw [List.filter_cons_of_pos e, List.map_cons] at q
        simpa using q
      | false =>
        refine iteF (compS ok f p h as _ (fun d' hd => hh d' (List.mem_cons_of_mem _ hd)) ?_)
        rw [List.filter_cons_of_neg (by rw [e]; decide)] at q
        exact q
    show okI I st _
    unfold okI
    rcases ok with e | ⟨n, xs, e, w⟩
    · rw [e]; exact z
    · rw [e]; exact ⟨w, z⟩
theorem itL_ref {st : DSt} {n : Nat} {xs : List D} (e : st[n]? = some (.lst xs)) : itOf st (.ref n) = some ⟨xs, some (n, .lst xs)⟩ := by unfold itOf; simp only [e]
end DL
namespace DL
open PySem PySem.Spec PyProof.Rows L2 LamX PySem.W SL
theorem compL_inv {te : DTE} {r : DEnv} {Q : List D → DSt → Prop} {xs : List D} {i : Nat} (K : Nat) (W : Nat → List D → DSt → Prop)
    (step : ∀ (k : Nat) (d : D) (acc : List D) (st : DSt) (N : DK), k < K → W k acc st → (∀ y st4, W (k + 1) (acc ++ [y]) st4 → N y st4) → te (r.set i (some d)) st N) (fin : ∀ acc st, W K acc st → Q acc st) :
    ∀ (items acc : List D) (k : Nat) (st : DSt), k + items.length = K → W k acc st → compL ⟨xs, none⟩ (gNm i) dtYes te r Q items acc st
  | [], acc, k, st, e, w => by
    have e' : k = K := e
    subst e'
    exact fin acc st w
  | d :: ds, acc, k, st, e, w => by
    rw [List.length_cons] at e
    show te (r.set i (some d)) st _
    exact step k d acc st _ (by omega) w fun y st4 w4 => compL_inv K W step fin ds _ (k + 1) st4 (by omega) w4
theorem mixed_ord {n : Nat} {ys : List D} (pm : ys.Perm (rgD 0 n)) : ∃ ns : List Int, ys = ns.map D.int ∧ Ord n ns := by
  rw [rg_ints] at pm
  have z : ∀ y ∈ ys, ∃ i : Int, y = .int i := fun y hy => by
    obtain ⟨i, _, rfl⟩ := List.mem_map.mp (pm.mem_iff.mp hy)
    exact ⟨i, rfl⟩
  refine ⟨ys.map fun d => match d with | .int i => i | _ => 0, ?_, ⟨?_⟩⟩
  · rw [List.map_map]
    refine (List.map_id ys).symm.trans (List.map_congr_left fun y hy => ?_)
    obtain ⟨i, rfl⟩ := z y hy
    rfl
  · have w := pm.map (fun d : D => match d with | .int i => i | _ => 0)
    rw [List.map_map] at w
    rw [show ((fun d : D => match d with | .int i => i | _ => 0) ∘ D.int) = id from rfl, List.map_id] at w
    exact w
theorem mixed_rg {p n k : Nat} {st : DSt} {Q : DK} (n1 : n ≤ 64) (pot : Pot (k + n) p st) (q : ∀ (ns : List Int) (o : O), Ord n ns → PotO k o → Q (.lst (ns.map D.int)) (st.set p o)) : g_mixed [.ref p, .lst (rgD 0 n)] st Q := by
  refine ⟨p, _, rgD 0 n, k, rfl, rfl, fun z => (by cases z), by rw [rgD_length]; omega, fun d hd => ?_, by rw [rgD_length]; exact pot, fun ys o2 pm po2 => ?_⟩
  · obtain ⟨i, li, rfl⟩ := rgD_mem hd
    exact (sm_int (by omega) (by omega)).mono (by decide) (by decide)
  · obtain ⟨ns, rfl, on⟩ := mixed_ord pm
    exact q ns o2 on po2
end DL
namespace DL
open PySem PySem.Spec PyProof.Rows L2 LamX PySem.W SL
def g_law : DRs := fun ds st Q => ∃ (ns : List Int) (x : D), ds = [x] ∧ Scr ns x ∧ ns.length ≤ 63 ∧ ∀ st' : DSt, Q (.bl true) st'
theorem ar_law (ds : List D) (st : DSt) (Q : DK) (h : g_law ds st Q) : ds.length = 1 := by
  obtain ⟨_, _, rfl, _⟩ := h
  rfl
theorem compL_true {te : DTE} {r : DEnv} {Q : List D → DSt → Prop} {xs : List D} {i : Nat} : ∀ (items acc : List D) (st : DSt), (∀ d ∈ items, ∀ (st : DSt) (Q' : DK), (∀ st4, Q' (.bl true) st4) → te (r.set i (some d)) st Q') → (∀ st', Q (acc ++ List.replicate items.length (.bl true)) st') → compL ⟨xs, none⟩ (gNm i) dtYes te r Q items acc st
  | [], acc, st, _, q => by
    have q' : Q acc st := by simpa using q st
    exact q'
  | d :: ds, acc, st, h, q => by
    show te (r.set i (some d)) st _
    refine h d List.mem_cons_self st _ fun st4 => compL_true ds _ st4 (fun d' hd => h d' (List.mem_cons_of_mem _ hd)) fun st' => ?_
    have z := q st'
    rw [List.length_cons, List.replicate_succ] at z
    simpa using z
theorem sem_law (ds : List D) (st : DSt) (Q : DK) (h : g_law ds st Q) : F_law g_pot g_right { nx := fun _ st' => Rt st Q .non st', rt := Rt st Q } (startD 2 ds) st := by
  obtain ⟨ns, x, rfl, hx, few, q⟩ := h
  have st2 : startD 2 [x] = [some x, none] := rfl
  have big : (1000 : Nat) ≤ sizeLine := by decide
  simp only [F_law, st2, e_var, e_C, e_op, e_neg, e_isN, e_notN, e_and, e_or, e_not, e_test, e_tAnd, e_tOr, e_tNot, e_tYes, e_if, e_aNil, e_aCons, e_tup, e_lst, e_lstN, e_len0, e_len1, e_len2, e_len3, e_len4, e_len5, e_cb, e_on1, e_on2, e_onI, e_onB, e_onO, e_onO0, e_onOO, e_I0, e_I, e_add, e_addT, e_addS, e_addL, e_addLR, e_addRL, e_addRR, e_mul, e_mulL, e_mulT, e_rev, e_revT, e_ix, e_eqI, e_eqS, e_eqB, e_neI, e_neS, e_neB, e_ltI, e_chain, e_len, e_abs, e_2I, e_tuple1, e_tuple2, e_tuple3, e_listT, e_listN, e_allR, e_seqT, e_seqK, e_seqL, e_isi, e_isB, e_notB, e_truth, e_next, e_seq, e_drop, e_ret, e_retN, e_ifS, e_set, e_asg, e_par, e_nm, e_gsN, e_gsC, e_gTpK, e_gTpL, e_sum, e_maxL, e_minL, e_maxDef, e_int, e_intB, e_aug, e_on3, e_par3, e_newK, e_getK, e_keyI, e_keyS, e_inK, e_ninK, e_putK, e_lenK, e_lstS, e_seqX, e_gTpT, e_oN, e_oS, e_sl, e_slT, e_slL, e_finT, e_finN, e_index, e_idxT, e_idxL, e_mIx, e_ixST, e_ixSL, e_mtL, e_w, e_w1, e_w2, e_wE, e_wZ, e_itK, e_itT, e_itL, e_itT2, e_itL2, e_lc, e_for, e_wipe0, e_wipe, e_okI, e_okR, e_gSb, List.getElem?_cons_zero, List.getElem?_cons_succ, List.set_cons_zero, List.set_cons_succ, hx.seq, List.length_map]
  generalize hj : (if (if (ns.length : Int) < 3 then (ns.length : Int) else 3) > 1 then (if (ns.length : Int) < 3 then (ns.length : Int) else 3) else 1) = j
  have j3 : 1 ≤ j ∧ j ≤ 3 := by
    rw [← hj]
    split <;> (try split) <;> omega
  refine ⟨⟨by omega, by omega⟩, by rw [rgD_length]; omega, ?_⟩
  refine compL_true _ [] st (fun d hd st1 Q' q' => ?_) fun st' => ?_
  · obtain ⟨k, lk, rfl⟩ := rgD_mem hd
    simp only [e_var, e_C, e_op, e_neg, e_isN, e_notN, e_and, e_or, e_not, e_test, e_tAnd, e_tOr, e_tNot, e_tYes, e_if, e_aNil, e_aCons, e_tup, e_lst, e_lstN, e_len0, e_len1, e_len2, e_len3, e_len4, e_len5, e_cb, e_on1, e_on2, e_onI, e_onB, e_onO, e_onO0, e_onOO, e_I0, e_I, e_add, e_addT, e_addS, e_addL, e_addLR, e_addRL, e_addRR, e_mul, e_mulL, e_mulT, e_rev, e_revT, e_ix, e_eqI, e_eqS, e_eqB, e_neI, e_neS, e_neB, e_ltI, e_chain, e_len, e_abs, e_2I, e_tuple1, e_tuple2, e_tuple3, e_listT, e_listN, e_allR, e_seqT, e_seqK, e_seqL, e_isi, e_isB, e_notB, e_truth, e_next, e_seq, e_drop, e_ret, e_retN, e_ifS, e_set, e_asg, e_par, e_nm, e_gsN, e_gsC, e_gTpK, e_gTpL, e_sum, e_maxL, e_minL, e_maxDef, e_int, e_intB, e_aug, e_on3, e_par3, e_newK, e_getK, e_keyI, e_keyS, e_inK, e_ninK, e_putK, e_lenK, e_lstS, e_seqX, e_gTpT, e_oN, e_oS, e_sl, e_slT, e_slL, e_finT, e_finN, e_index, e_idxT, e_idxL, e_mIx, e_ixST, e_ixSL, e_mtL, e_w, e_w1, e_w2, e_wE, e_wZ, e_itK, e_itT, e_itL, e_itT2, e_itL2, e_lc, e_for, e_wipe0, e_wipe, e_okI, e_okR, e_gSb, List.getElem?_cons_zero, List.getElem?_cons_succ, List.set_cons_zero, List.set_cons_succ]
    refine ⟨ns, x, k, by rw [Int.zero_add], hx, by omega, fun o po => ⟨st1.length, rfl, ⟨o, by simp, po.less (by decide)⟩, fun o2 _ => q' _⟩⟩
  · rw [List.nil_append]
    exact all_end0 (fun d hd => List.eq_of_mem_replicate hd) (.inl (q _))
end DL
namespace DL
open PySem PySem.Spec PyProof.Rows L2 LamX PySem.W SL
def g_isPr : DRs := fun ds st Q => ∃ (n : Nat) (ns : List Int), ds = [.int n, rowD ns] ∧ Ord n ns ∧ n ≤ 1000 ∧ Q (.bl true) st
theorem ar_isPr (ds : List D) (st : DSt) (Q : DK) (h : g_isPr ds st Q) : ds.length = 2 := by
  obtain ⟨_, _, rfl, _⟩ := h
  rfl
theorem sem_isPr (ds : List D) (st : DSt) (Q : DK) (h : g_isPr ds st Q) : F_is_probe_order g_within { nx := fun _ st' => Rt st Q .non st', rt := Rt st Q } (startD 3 ds) st := by
  obtain ⟨n, ns, rfl, o, n1, q⟩ := h
  have st3 : startD 3 [D.int (n : Int), rowD ns] = [some (.int n), some (.tup (ns.map D.int)), none] := rfl
  have big : (1000 : Nat) ≤ sizeLine := by decide
  have ty : ∀ xs : List D, tyN st (.tup xs) = some "tuple" := fun _ => rfl
  have sb : subTy "tuple" "tuple" = true := by decide +kernel
  simp only [F_is_probe_order, st3, e_var, e_C, e_op, e_neg, e_isN, e_notN, e_and, e_or, e_not, e_test, e_tAnd, e_tOr, e_tNot, e_tYes, e_if, e_aNil, e_aCons, e_tup, e_lst, e_lstN, e_len0, e_len1, e_len2, e_len3, e_len4, e_len5, e_cb, e_on1, e_on2, e_onI, e_onB, e_onO, e_onO0, e_onOO, e_I0, e_I, e_add, e_addT, e_addS, e_addL, e_addLR, e_addRL, e_addRR, e_mul, e_mulL, e_mulT, e_rev, e_revT, e_ix, e_eqI, e_eqS, e_eqB, e_neI, e_neS, e_neB, e_ltI, e_chain, e_len, e_abs, e_2I, e_tuple1, e_tuple2, e_tuple3, e_listT, e_listN, e_allR, e_seqT, e_seqK, e_seqL, e_isi, e_isB, e_notB, e_truth, e_next, e_seq, e_drop, e_ret, e_retN, e_ifS, e_set, e_asg, e_par, e_nm, e_gsN, e_gsC, e_gTpK, e_gTpL, e_sum, e_maxL, e_minL, e_maxDef, e_int, e_intB, e_aug, e_on3, e_par3, e_newK, e_getK, e_keyI, e_keyS, e_inK, e_ninK, e_putK, e_lenK, e_lstS, e_seqX, e_gTpT, e_oN, e_oS, e_sl, e_slT, e_slL, e_finT, e_finN, e_index, e_idxT, e_idxL, e_mIx, e_ixST, e_ixSL, e_mtL, e_w, e_w1, e_w2, e_wE, e_wZ, e_itK, e_itT, e_itL, e_itT2, e_itL2, e_lc, e_for, e_wipe0, e_wipe, e_okI, e_okR, e_gSb, List.getElem?_cons_zero, List.getElem?_cons_succ, List.set_cons_zero, List.set_cons_succ, ty, sb, List.length_map, o.len, Bool.not_true, decide_true]
  refine iteF (iteF ?_)
  refine ⟨by omega, lc_map (fun _ => .bl true) (fun x hx Q' q' => ?_) ?_⟩
  · obtain ⟨i, hi, rfl⟩ := List.mem_map.mp hx
    simp only [e_var, e_C, e_op, e_neg, e_isN, e_notN, e_and, e_or, e_not, e_test, e_tAnd, e_tOr, e_tNot, e_tYes, e_if, e_aNil, e_aCons, e_tup, e_lst, e_lstN, e_len0, e_len1, e_len2, e_len3, e_len4, e_len5, e_cb, e_on1, e_on2, e_onI, e_onB, e_onO, e_onO0, e_onOO, e_I0, e_I, e_add, e_addT, e_addS, e_addL, e_addLR, e_addRL, e_addRR, e_mul, e_mulL, e_mulT, e_rev, e_revT, e_ix, e_eqI, e_eqS, e_eqB, e_neI, e_neS, e_neB, e_ltI, e_chain, e_len, e_abs, e_2I, e_tuple1, e_tuple2, e_tuple3, e_listT, e_listN, e_allR, e_seqT, e_seqK, e_seqL, e_isi, e_isB, e_notB, e_truth, e_next, e_seq, e_drop, e_ret, e_retN, e_ifS, e_set, e_asg, e_par, e_nm, e_gsN, e_gsC, e_gTpK, e_gTpL, e_sum, e_maxL, e_minL, e_maxDef, e_int, e_intB, e_aug, e_on3, e_par3, e_newK, e_getK, e_keyI, e_keyS, e_inK, e_ninK, e_putK, e_lenK, e_lstS, e_seqX, e_gTpT, e_oN, e_oS, e_sl, e_slT, e_slL, e_finT, e_finN, e_index, e_idxT, e_idxL, e_mIx, e_ixST, e_ixSL, e_mtL, e_w, e_w1, e_w2, e_wE, e_wZ, e_itK, e_itT, e_itL, e_itT2, e_itL2, e_lc, e_for, e_wipe0, e_wipe, e_okI, e_okR, e_gSb, List.getElem?_cons_zero, List.getElem?_cons_succ, List.set_cons_zero, List.set_cons_succ]
    refine ⟨.int i, 0, (n : Int) - 1, rfl, ⟨_, rfl⟩, ?_⟩
    have m := o.mem.mp hi
    have e : inR 0 ((n : Int) - 1) (.int i) = true := by
      show (decide (0 ≤ i) && decide (i ≤ (n : Int) - 1)) = true
      rw [decide_eq_true m.1, decide_eq_true (by omega)]
      rfl
    rw [e]
    exact q'
  · refine all_end0 (fun d hd => ?_) ?_
    · obtain ⟨_, _, rfl⟩ := List.mem_map.mp hd
      rfl
    · simp only [e_var, e_C, e_op, e_neg, e_isN, e_notN, e_and, e_or, e_not, e_test, e_tAnd, e_tOr, e_tNot, e_tYes, e_if, e_aNil, e_aCons, e_tup, e_lst, e_lstN, e_len0, e_len1, e_len2, e_len3, e_len4, e_len5, e_cb, e_on1, e_on2, e_onI, e_onB, e_onO, e_onO0, e_onOO, e_I0, e_I, e_add, e_addT, e_addS, e_addL, e_addLR, e_addRL, e_addRR, e_mul, e_mulL, e_mulT, e_rev, e_revT, e_ix, e_eqI, e_eqS, e_eqB, e_neI, e_neS, e_neB, e_ltI, e_chain, e_len, e_abs, e_2I, e_tuple1, e_tuple2, e_tuple3, e_listT, e_listN, e_allR, e_seqT, e_seqK, e_seqL, e_isi, e_isB, e_notB, e_truth, e_next, e_seq, e_drop, e_ret, e_retN, e_ifS, e_set, e_asg, e_par, e_nm, e_gsN, e_gsC, e_gTpK, e_gTpL, e_sum, e_maxL, e_minL, e_maxDef, e_int, e_intB, e_aug, e_on3, e_par3, e_newK, e_getK, e_keyI, e_keyS, e_inK, e_ninK, e_putK, e_lenK, e_lstS, e_seqX, e_gTpT, e_oN, e_oS, e_sl, e_slT, e_slL, e_finT, e_finN, e_index, e_idxT, e_idxL, e_mIx, e_ixST, e_ixSL, e_mtL, e_w, e_w1, e_w2, e_wE, e_wZ, e_itK, e_itT, e_itL, e_itT2, e_itL2, e_lc, e_for, e_wipe0, e_wipe, e_okI, e_okR, e_gSb, List.getElem?_cons_zero, List.getElem?_cons_succ, List.set_cons_zero, List.set_cons_succ]
      unfold dLenSet
      simp only [e_var, e_C, e_op, e_neg, e_isN, e_notN, e_and, e_or, e_not, e_test, e_tAnd, e_tOr, e_tNot, e_tYes, e_if, e_aNil, e_aCons, e_tup, e_lst, e_lstN, e_len0, e_len1, e_len2, e_len3, e_len4, e_len5, e_cb, e_on1, e_on2, e_onI, e_onB, e_onO, e_onO0, e_onOO, e_I0, e_I, e_add, e_addT, e_addS, e_addL, e_addLR, e_addRL, e_addRR, e_mul, e_mulL, e_mulT, e_rev, e_revT, e_ix, e_eqI, e_eqS, e_eqB, e_neI, e_neS, e_neB, e_ltI, e_chain, e_len, e_abs, e_2I, e_tuple1, e_tuple2, e_tuple3, e_listT, e_listN, e_allR, e_seqT, e_seqK, e_seqL, e_isi, e_isB, e_notB, e_truth, e_next, e_seq, e_drop, e_ret, e_retN, e_ifS, e_set, e_asg, e_par, e_nm, e_gsN, e_gsC, e_gTpK, e_gTpL, e_sum, e_maxL, e_minL, e_maxDef, e_int, e_intB, e_aug, e_on3, e_par3, e_newK, e_getK, e_keyI, e_keyS, e_inK, e_ninK, e_putK, e_lenK, e_lstS, e_seqX, e_gTpT, e_oN, e_oS, e_sl, e_slT, e_slL, e_finT, e_finN, e_index, e_idxT, e_idxL, e_mIx, e_ixST, e_ixSL, e_mtL, e_w, e_w1, e_w2, e_wE, e_wZ, e_itK, e_itT, e_itL, e_itT2, e_itL2, e_lc, e_for, e_wipe0, e_wipe, e_okI, e_okR, e_gSb, List.getElem?_cons_zero, List.getElem?_cons_succ, List.set_cons_zero, List.set_cons_succ, intsD_ints]
      refine ⟨by rw [o.len]; omega, fun ks nd mem => ?_⟩
      have pm : ks.Perm ns := (List.perm_ext_iff_of_nodup nd o.nd).mpr mem
      have l : ks.length = n := by rw [pm.length_eq, o.len]
      simp only [e_var, e_C, e_op, e_neg, e_isN, e_notN, e_and, e_or, e_not, e_test, e_tAnd, e_tOr, e_tNot, e_tYes, e_if, e_aNil, e_aCons, e_tup, e_lst, e_lstN, e_len0, e_len1, e_len2, e_len3, e_len4, e_len5, e_cb, e_on1, e_on2, e_onI, e_onB, e_onO, e_onO0, e_onOO, e_I0, e_I, e_add, e_addT, e_addS, e_addL, e_addLR, e_addRL, e_addRR, e_mul, e_mulL, e_mulT, e_rev, e_revT, e_ix, e_eqI, e_eqS, e_eqB, e_neI, e_neS, e_neB, e_ltI, e_chain, e_len, e_abs, e_2I, e_tuple1, e_tuple2, e_tuple3, e_listT, e_listN, e_allR, e_seqT, e_seqK, e_seqL, e_isi, e_isB, e_notB, e_truth, e_next, e_seq, e_drop, e_ret, e_retN, e_ifS, e_set, e_asg, e_par, e_nm, e_gsN, e_gsC, e_gTpK, e_gTpL, e_sum, e_maxL, e_minL, e_maxDef, e_int, e_intB, e_aug, e_on3, e_par3, e_newK, e_getK, e_keyI, e_keyS, e_inK, e_ninK, e_putK, e_lenK, e_lstS, e_seqX, e_gTpT, e_oN, e_oS, e_sl, e_slT, e_slL, e_finT, e_finN, e_index, e_idxT, e_idxL, e_mIx, e_ixST, e_ixSL, e_mtL, e_w, e_w1, e_w2, e_wE, e_wZ, e_itK, e_itT, e_itL, e_itT2, e_itL2, e_lc, e_for, e_wipe0, e_wipe, e_okI, e_okR, e_gSb, List.getElem?_cons_zero, List.getElem?_cons_succ, List.set_cons_zero, List.set_cons_succ, l, decide_true]
      exact .inl q
end DL
namespace DL
open PySem PySem.Spec PyProof.Rows L2 LamX PySem.W SL
def g_arePr : DRs := fun ds st Q => ∃ (n : Nat) (ps : List (List Int)), ds = [rowsD ps] ∧ (∀ p ∈ ps, Ord n p) ∧ 1 ≤ ps.length ∧ ps.length ≤ 16 ∧ 1 ≤ n ∧ n ≤ 16 ∧ Q (.bl true) st
theorem ar_arePr (ds : List D) (st : DSt) (Q : DK) (h : g_arePr ds st Q) : ds.length = 1 := by
  obtain ⟨_, _, rfl, _⟩ := h
  rfl
theorem sem_arePr (ds : List D) (st : DSt) (Q : DK) (h : g_arePr ds st Q) : F_are_probes g_isPr g_sized { nx := fun _ st' => Rt st Q .non st', rt := Rt st Q } (startD 3 ds) st := by
  obtain ⟨n, ps, rfl, oo, s0, s1, k0, k1, q⟩ := h
  have st3 : startD 3 [rowsD ps] = [some (.tup (ps.map rowD)), none, none] := rfl
  obtain ⟨t, r, rfl⟩ : ∃ t r, ps = t :: r := by
    cases ps with
    | nil => simp at s0
    | cons t r => exact ⟨t, r, rfl⟩
  have ot := oo t List.mem_cons_self
  rw [List.length_cons] at s1
  have at_ : atI ((t :: r).map rowD) 0 = some (rowD t) := at0
  simp only [F_are_probes, st3, e_var, e_C, e_op, e_neg, e_isN, e_notN, e_and, e_or, e_not, e_test, e_tAnd, e_tOr, e_tNot, e_tYes, e_if, e_aNil, e_aCons, e_tup, e_lst, e_lstN, e_len0, e_len1, e_len2, e_len3, e_len4, e_len5, e_cb, e_on1, e_on2, e_onI, e_onB, e_onO, e_onO0, e_onOO, e_I0, e_I, e_add, e_addT, e_addS, e_addL, e_addLR, e_addRL, e_addRR, e_mul, e_mulL, e_mulT, e_rev, e_revT, e_ix, e_eqI, e_eqS, e_eqB, e_neI, e_neS, e_neB, e_ltI, e_chain, e_len, e_abs, e_2I, e_tuple1, e_tuple2, e_tuple3, e_listT, e_listN, e_allR, e_seqT, e_seqK, e_seqL, e_isi, e_isB, e_notB, e_truth, e_next, e_seq, e_drop, e_ret, e_retN, e_ifS, e_set, e_asg, e_par, e_nm, e_gsN, e_gsC, e_gTpK, e_gTpL, e_sum, e_maxL, e_minL, e_maxDef, e_int, e_intB, e_aug, e_on3, e_par3, e_newK, e_getK, e_keyI, e_keyS, e_inK, e_ninK, e_putK, e_lenK, e_lstS, e_seqX, e_gTpT, e_oN, e_oS, e_sl, e_slT, e_slL, e_finT, e_finN, e_index, e_idxT, e_idxL, e_mIx, e_ixST, e_ixSL, e_mtL, e_w, e_w1, e_w2, e_wE, e_wZ, e_itK, e_itT, e_itL, e_itT2, e_itL2, e_lc, e_for, e_wipe0, e_wipe, e_okI, e_okR, e_gSb, List.getElem?_cons_zero, List.getElem?_cons_succ, List.set_cons_zero, List.set_cons_succ, at_]
  refine ⟨.tup ((t :: r).map rowD), rfl, ⟨_, rfl⟩, trivial, ?_⟩
  have z1 : sized (.tup ((t :: r).map rowD)) = true := by simp [sized]; omega
  rw [z1]
  simp only [e_var, e_C, e_op, e_neg, e_isN, e_notN, e_and, e_or, e_not, e_test, e_tAnd, e_tOr, e_tNot, e_tYes, e_if, e_aNil, e_aCons, e_tup, e_lst, e_lstN, e_len0, e_len1, e_len2, e_len3, e_len4, e_len5, e_cb, e_on1, e_on2, e_onI, e_onB, e_onO, e_onO0, e_onOO, e_I0, e_I, e_add, e_addT, e_addS, e_addL, e_addLR, e_addRL, e_addRR, e_mul, e_mulL, e_mulT, e_rev, e_revT, e_ix, e_eqI, e_eqS, e_eqB, e_neI, e_neS, e_neB, e_ltI, e_chain, e_len, e_abs, e_2I, e_tuple1, e_tuple2, e_tuple3, e_listT, e_listN, e_allR, e_seqT, e_seqK, e_seqL, e_isi, e_isB, e_notB, e_truth, e_next, e_seq, e_drop, e_ret, e_retN, e_ifS, e_set, e_asg, e_par, e_nm, e_gsN, e_gsC, e_gTpK, e_gTpL, e_sum, e_maxL, e_minL, e_maxDef, e_int, e_intB, e_aug, e_on3, e_par3, e_newK, e_getK, e_keyI, e_keyS, e_inK, e_ninK, e_putK, e_lenK, e_lstS, e_seqX, e_gTpT, e_oN, e_oS, e_sl, e_slT, e_slL, e_finT, e_finN, e_index, e_idxT, e_idxL, e_mIx, e_ixST, e_ixSL, e_mtL, e_w, e_w1, e_w2, e_wE, e_wZ, e_itK, e_itT, e_itL, e_itT2, e_itL2, e_lc, e_for, e_wipe0, e_wipe, e_okI, e_okR, e_gSb, List.getElem?_cons_zero, List.getElem?_cons_succ, List.set_cons_zero, List.set_cons_succ]
  refine iteF' (by decide) ⟨rowD t, rfl, ⟨_, rfl⟩, trivial, ?_⟩
  have z2 : sized (rowD t) = true := by simp [sized, rowD, ot.len]; omega
  rw [z2]
  simp only [e_var, e_C, e_op, e_neg, e_isN, e_notN, e_and, e_or, e_not, e_test, e_tAnd, e_tOr, e_tNot, e_tYes, e_if, e_aNil, e_aCons, e_tup, e_lst, e_lstN, e_len0, e_len1, e_len2, e_len3, e_len4, e_len5, e_cb, e_on1, e_on2, e_onI, e_onB, e_onO, e_onO0, e_onOO, e_I0, e_I, e_add, e_addT, e_addS, e_addL, e_addLR, e_addRL, e_addRR, e_mul, e_mulL, e_mulT, e_rev, e_revT, e_ix, e_eqI, e_eqS, e_eqB, e_neI, e_neS, e_neB, e_ltI, e_chain, e_len, e_abs, e_2I, e_tuple1, e_tuple2, e_tuple3, e_listT, e_listN, e_allR, e_seqT, e_seqK, e_seqL, e_isi, e_isB, e_notB, e_truth, e_next, e_seq, e_drop, e_ret, e_retN, e_ifS, e_set, e_asg, e_par, e_nm, e_gsN, e_gsC, e_gTpK, e_gTpL, e_sum, e_maxL, e_minL, e_maxDef, e_int, e_intB, e_aug, e_on3, e_par3, e_newK, e_getK, e_keyI, e_keyS, e_inK, e_ninK, e_putK, e_lenK, e_lstS, e_seqX, e_gTpT, e_oN, e_oS, e_sl, e_slT, e_slL, e_finT, e_finN, e_index, e_idxT, e_idxL, e_mIx, e_ixST, e_ixSL, e_mtL, e_w, e_w1, e_w2, e_wE, e_wZ, e_itK, e_itT, e_itL, e_itT2, e_itL2, e_lc, e_for, e_wipe0, e_wipe, e_okI, e_okR, e_gSb, List.getElem?_cons_zero, List.getElem?_cons_succ, List.set_cons_zero, List.set_cons_succ, rowD]
  refine iteF' (by decide) ?_
  have at2 : atI ((t :: r).map fun ns => D.tup (ns.map D.int)) 0 = some (.tup (t.map D.int)) := at0
  simp only [e_var, e_C, e_op, e_neg, e_isN, e_notN, e_and, e_or, e_not, e_test, e_tAnd, e_tOr, e_tNot, e_tYes, e_if, e_aNil, e_aCons, e_tup, e_lst, e_lstN, e_len0, e_len1, e_len2, e_len3, e_len4, e_len5, e_cb, e_on1, e_on2, e_onI, e_onB, e_onO, e_onO0, e_onOO, e_I0, e_I, e_add, e_addT, e_addS, e_addL, e_addLR, e_addRL, e_addRR, e_mul, e_mulL, e_mulT, e_rev, e_revT, e_ix, e_eqI, e_eqS, e_eqB, e_neI, e_neS, e_neB, e_ltI, e_chain, e_len, e_abs, e_2I, e_tuple1, e_tuple2, e_tuple3, e_listT, e_listN, e_allR, e_seqT, e_seqK, e_seqL, e_isi, e_isB, e_notB, e_truth, e_next, e_seq, e_drop, e_ret, e_retN, e_ifS, e_set, e_asg, e_par, e_nm, e_gsN, e_gsC, e_gTpK, e_gTpL, e_sum, e_maxL, e_minL, e_maxDef, e_int, e_intB, e_aug, e_on3, e_par3, e_newK, e_getK, e_keyI, e_keyS, e_inK, e_ninK, e_putK, e_lenK, e_lstS, e_seqX, e_gTpT, e_oN, e_oS, e_sl, e_slT, e_slL, e_finT, e_finN, e_index, e_idxT, e_idxL, e_mIx, e_ixST, e_ixSL, e_mtL, e_w, e_w1, e_w2, e_wE, e_wZ, e_itK, e_itT, e_itL, e_itT2, e_itL2, e_lc, e_for, e_wipe0, e_wipe, e_okI, e_okR, e_gSb, List.getElem?_cons_zero, List.getElem?_cons_succ, List.set_cons_zero, List.set_cons_succ, at2, List.length_map, ot.len]
  refine ⟨by have : (1000 : Nat) ≤ sizeLine := by decide
             simp; omega, lc_map (fun _ => .bl true) (fun d hd Q' q' => ?_) ?_⟩
  · obtain ⟨ns, hn, rfl⟩ := List.mem_map.mp hd
    simp only [e_var, e_C, e_op, e_neg, e_isN, e_notN, e_and, e_or, e_not, e_test, e_tAnd, e_tOr, e_tNot, e_tYes, e_if, e_aNil, e_aCons, e_tup, e_lst, e_lstN, e_len0, e_len1, e_len2, e_len3, e_len4, e_len5, e_cb, e_on1, e_on2, e_onI, e_onB, e_onO, e_onO0, e_onOO, e_I0, e_I, e_add, e_addT, e_addS, e_addL, e_addLR, e_addRL, e_addRR, e_mul, e_mulL, e_mulT, e_rev, e_revT, e_ix, e_eqI, e_eqS, e_eqB, e_neI, e_neS, e_neB, e_ltI, e_chain, e_len, e_abs, e_2I, e_tuple1, e_tuple2, e_tuple3, e_listT, e_listN, e_allR, e_seqT, e_seqK, e_seqL, e_isi, e_isB, e_notB, e_truth, e_next, e_seq, e_drop, e_ret, e_retN, e_ifS, e_set, e_asg, e_par, e_nm, e_gsN, e_gsC, e_gTpK, e_gTpL, e_sum, e_maxL, e_minL, e_maxDef, e_int, e_intB, e_aug, e_on3, e_par3, e_newK, e_getK, e_keyI, e_keyS, e_inK, e_ninK, e_putK, e_lenK, e_lstS, e_seqX, e_gTpT, e_oN, e_oS, e_sl, e_slT, e_slL, e_finT, e_finN, e_index, e_idxT, e_idxL, e_mIx, e_ixST, e_ixSL, e_mtL, e_w, e_w1, e_w2, e_wE, e_wZ, e_itK, e_itT, e_itL, e_itT2, e_itL2, e_lc, e_for, e_wipe0, e_wipe, e_okI, e_okR, e_gSb, List.getElem?_cons_zero, List.getElem?_cons_succ, List.set_cons_zero, List.set_cons_succ]
    exact ⟨n, ns, rfl, oo ns hn, by omega, q'⟩
  · exact all_end0 (fun d hd => by obtain ⟨_, _, rfl⟩ := List.mem_map.mp hd; rfl) (.inl q)
theorem R_ord (n : Nat) : Ord n (R n) := ⟨.refl _⟩
theorem o1 : Ord 1 [0] := R_ord 1
theorem t1 : ordT [0] = [[]] := by
  have tb := o1.tb
  have l := tb.len
  obtain ⟨r, e⟩ := List.length_eq_one_iff.mp l
  have rr : r = [] := by
    refine List.eq_nil_iff_forall_not_mem.mpr fun x hx => ?_
    have m := tb.inr 0 (by omega) x (by rw [e]; exact hx)
    have ii := tb.irr (a := 0) (by omega)
    refine ii ?_
    unfold Beats
    rw [e]
    have : x = 0 := by omega
    rw [this] at hx
    exact hx
  rw [e, rr]
end DL
namespace DL
open PySem PySem.Spec PyProof.Rows L2 LamX PySem.W SL
def At (sl : List Int) (s k : Nat) : Prop := sl[s]? = some (k : Int)
structure Lay (m n : Nat) (sl : List Int) : Prop where
  len : sl.length = n
  rng : ∀ x ∈ sl, -1 ≤ x ∧ x < m
  inj : ∀ s t k, At sl s k → At sl t k → s = t
theorem At.one {sl : List Int} {s j k : Nat} (h : At sl s j) (q : At sl s k) : j = k := by
  unfold At at h q
  rw [h] at q
  have := Option.some.inj q
  omega
theorem At.lt {sl : List Int} {s k : Nat} (h : At sl s k) : s < sl.length := (List.getElem?_eq_some_iff.mp h).1
theorem Lay.key {m n : Nat} {sl : List Int} (L : Lay m n sl) {s k : Nat} (h : At sl s k) : k < m ∧ s < n := by
  have := L.rng _ (List.mem_of_getElem? h)
  have := h.lt
  have := L.len
  omega
theorem At.ne {sl : List Int} {s k : Nat} (h : At sl s k) : sl[s]? ≠ some (-1) := by
  unfold At at h
  rw [h]
  intro z
  have := Option.some.inj z
  omega
theorem at_set {sl : List Int} {s t a k : Nat} (h : s < sl.length) : At (sl.set s (a : Int)) t k ↔ (t = s ∧ k = a) ∨ (t ≠ s ∧ At sl t k) := by
  unfold At
  by_cases e : t = s
  · subst e
    rw [List.getElem?_set_self h]
    constructor
    · intro z
      have := Option.some.inj z
      exact .inl ⟨rfl, by omega⟩
    · rintro (⟨_, z⟩ | ⟨z, _⟩)
      · rw [z]
      · exact absurd rfl z
  · rw [List.getElem?_set_ne (fun z => e z.symm)]
    constructor
    · exact fun z => .inr ⟨e, z⟩
    · rintro (⟨z, _⟩ | ⟨_, z⟩)
      · exact absurd z e
      · exact z
theorem Lay.set {m n : Nat} {sl : List Int} (L : Lay m n sl) {s a : Nat} (hs : s < n) (ha : a < m) (fr : ∀ t, ¬ At sl t a) : Lay m n (sl.set s (a : Int)) := by
  have ls : s < sl.length := by rw [L.len]; exact hs
  refine ⟨by rw [List.length_set]; exact L.len, fun x hx => ?_, fun u t k h1 h2 => ?_⟩
  · rcases List.mem_or_eq_of_mem_set hx with z | z
    · exact L.rng x z
    · omega
  · rcases (at_set ls).mp h1 with ⟨e1, e2⟩ | ⟨n1, q1⟩ <;> rcases (at_set ls).mp h2 with ⟨e3, e4⟩ | ⟨n2, q2⟩
    · omega
    · subst e2; exact absurd q2 (fr t)
    · subst e4; exact absurd q1 (fr u)
    · exact L.inj _ _ _ q1 q2
structure Setg (m n : Nat) (P : List (List Int)) (R : List (List (List Int))) : Prop where
  pl : P.length = m
  po : ∀ o ∈ P, Ord n o
  rl : R.length = n
  rt : ∀ t ∈ R, Tb m t
def pr (P : List (List Int)) (a i : Nat) : Nat := ((P.getD a []).getD i 0).toNat
def rk (P : List (List Int)) (a s : Nat) : Nat := pos (P.getD a []) (s : Int)
def bt (R : List (List (List Int))) (s a b : Nat) : Bool := decide ((b : Int) ∈ (R.getD s []).getD a [])
section
variable {m n : Nat} {P : List (List Int)} {R : List (List (List Int))}
theorem getD_memL {α : Type} {l : List α} {i : Nat} {d : α} (h : i < l.length) : l.getD i d ∈ l := by
  rw [List.getD_eq_getElem?_getD, List.getElem?_eq_getElem h]
  exact List.getElem_mem h
theorem Setg.ord (S : Setg m n P R) {a : Nat} (h : a < m) : Ord n (P.getD a []) := S.po _ (getD_memL (by rw [S.pl]; exact h))
theorem Setg.tb (S : Setg m n P R) {s : Nat} (h : s < n) : Tb m (R.getD s []) := S.rt _ (getD_memL (by rw [S.rl]; exact h))
theorem Setg.pr_at (S : Setg m n P R) {a i : Nat} (ha : a < m) (hi : i < n) : (P.getD a [])[i]? = some (pr P a i : Int) ∧ pr P a i < n := by
  have o := S.ord ha
  have li : i < (P.getD a []).length := by rw [o.len]; exact hi
  have e := List.getElem?_eq_getElem li
  have r := o.mem.mp (List.getElem_mem li)
  unfold pr
  rw [List.getD_eq_getElem?_getD (l := P.getD a []), e]
  exact ⟨by congr 1; show _ = (((P.getD a [])[i].toNat : Nat) : Int); omega, by show (P.getD a [])[i].toNat < n; omega⟩
theorem Setg.rk_at (S : Setg m n P R) {a s : Nat} (ha : a < m) (hs : s < n) : (P.getD a [])[rk P a s]? = some (s : Int) ∧ rk P a s < n ∧ ixOf (s : Int) (P.getD a []) = some (rk P a s) := by
  have o := S.ord ha
  have h := pos_at (ns := P.getD a []) (x := (s : Int)) (o.mem.mpr (by omega))
  have l := (List.getElem?_eq_some_iff.mp h.1).1
  rw [o.len] at l
  exact ⟨h.1, l, h.2⟩
theorem Setg.rk_pr (S : Setg m n P R) {a i : Nat} (ha : a < m) (hi : i < n) : rk P a (pr P a i) = i := by
  obtain ⟨e, l⟩ := S.pr_at ha hi
  exact nd_at (S.ord ha).nd (S.rk_at ha l).1 e
theorem Setg.pr_rk (S : Setg m n P R) {a s : Nat} (ha : a < m) (hs : s < n) : pr P a (rk P a s) = s := by
  obtain ⟨e, l, _⟩ := S.rk_at ha hs
  have z := (S.pr_at ha l).1
  rw [e] at z
  have := Option.some.inj z
  omega
def Ahead (P : List (List Int)) (sl : List Int) : Prop := ∀ s k, At sl s k → ∀ j, j < rk P k s → ∃ k', At sl (pr P k j) k'
structure Good (m n : Nat) (P : List (List Int)) (sl : List Int) : Prop where
  lay : Lay m n sl
  ah : Ahead P sl
structure Go (m n : Nat) (P : List (List Int)) (sl : List Int) (a i : Nat) : Prop where
  g : Good m n P sl
  ha : a < m
  hi : i < n
  fr : ∀ t, ¬ At sl t a
  ask : ∀ j, j < i → ∃ k', At sl (pr P a j) k'
  room : ∃ t, t < n ∧ sl[t]? = some (-1)
theorem next_lt (S : Setg m n P R) {sl : List Int} {a i : Nat} (ha : a < m) (hi : i < n) (ask : ∀ j, j < i → ∃ k', At sl (pr P a j) k') (room : ∃ t, t < n ∧ sl[t]? = some (-1)) {k : Nat} (tk : At sl (pr P a i) k) : i + 1 < n := by
  obtain ⟨t, lt, e⟩ := room
  have l := (S.rk_at ha lt).2.1
  have p := S.pr_rk ha lt
  rcases Nat.lt_trichotomy (rk P a t) i with q | q | q
  · obtain ⟨k', h⟩ := ask _ q
    rw [p] at h
    exact absurd e h.ne
  · rw [← q, p] at tk
    exact absurd e tk.ne
  · omega
theorem Go.on (S : Setg m n P R) {sl : List Int} {a i k : Nat} (G : Go m n P sl a i) (tk : At sl (pr P a i) k) : Go m n P sl a (i + 1) := by
  refine ⟨G.g, G.ha, next_lt S G.ha G.hi G.ask G.room tk, G.fr, fun j lj => ?_, G.room⟩
  rcases Nat.lt_or_ge j i with q | q
  · exact G.ask j q
  · rw [show j = i by omega]; exact ⟨k, tk⟩
theorem taken_set {sl : List Int} {s a : Nat} (h : s < sl.length) {t k : Nat} (tk : At sl t k) : ∃ k', At (sl.set s (a : Int)) t k' := by
  by_cases e : t = s
  · exact ⟨a, (at_set h).mpr (.inl ⟨e, rfl⟩)⟩
  · exact ⟨k, (at_set h).mpr (.inr ⟨e, tk⟩)⟩
theorem Good.put (S : Setg m n P R) {sl : List Int} {a i : Nat} (g : Good m n P sl) (ha : a < m) (hi : i < n) (fr : ∀ t, ¬ At sl t a) (ask : ∀ j, j < i → ∃ k', At sl (pr P a j) k') : Good m n P (sl.set (pr P a i) (a : Int)) := by
  have ls := (S.pr_at ha hi).2
  have ls' : pr P a i < sl.length := by rw [g.lay.len]; exact ls
  refine ⟨g.lay.set ls ha fr, fun s k h j lj => ?_⟩
  rcases (at_set ls').mp h with ⟨e1, e2⟩ | ⟨e1, q⟩
  · subst e1
    subst e2
    rw [S.rk_pr ha hi] at lj
    obtain ⟨k', h'⟩ := ask j lj
    exact taken_set ls' h'
  · obtain ⟨k', h'⟩ := g.ah s k q j lj
    exact taken_set ls' h'
theorem Go.swap (S : Setg m n P R) {sl : List Int} {a i k : Nat} (G : Go m n P sl a i) (tk : At sl (pr P a i) k) : Go m n P (sl.set (pr P a i) (a : Int)) k (rk P k (pr P a i) + 1) := by
  have ls := (S.pr_at G.ha G.hi).2
  have ls' : pr P a i < sl.length := by rw [G.g.lay.len]; exact ls
  have hk := (G.g.lay.key tk).1
  have lr := (S.rk_at hk ls).2.1
  have pk := S.pr_rk hk ls
  have nx := next_lt S (sl := sl) hk lr (G.g.ah _ _ tk) G.room (k := k) (by rw [pk]; exact tk)
  refine ⟨G.g.put S G.ha G.hi G.fr G.ask, hk, nx, fun t h => ?_, fun j lj => ?_, ?_⟩
  · rcases (at_set ls').mp h with ⟨_, e2⟩ | ⟨ne, q⟩
    · subst e2; exact G.fr _ tk
    · exact ne (G.g.lay.inj _ _ _ q tk)
  · rcases Nat.lt_or_ge j (rk P k (pr P a i)) with q | q
    · obtain ⟨k', h'⟩ := G.g.ah _ _ tk j q
      exact taken_set ls' h'
    · rw [show j = rk P k (pr P a i) by omega, pk]
      exact taken_set ls' tk
  · obtain ⟨t, lt, e⟩ := G.room
    refine ⟨t, lt, ?_⟩
    have ne : t ≠ pr P a i := fun z => by rw [z] at e; exact tk.ne e
    rw [List.getElem?_set_ne (fun z => ne z.symm)]
    exact e
def insG (P : List (List Int)) (R : List (List (List Int))) : Nat → List Int → Nat → Nat → Option (List Int × List (Nat × Nat))
  | 0, _, _, _ => none
  | f + 1, sl, a, i => match sl.getD (pr P a i) (-1) with
    | Int.ofNat k => if bt R (pr P a i) a k = true then (insG P R f (sl.set (pr P a i) (a : Int)) k (rk P k (pr P a i) + 1)).map fun x => (x.1, (a, pr P a i) :: x.2) else insG P R f sl a (i + 1)
    | Int.negSucc _ => some (sl.set (pr P a i) (a : Int), [(a, pr P a i)])
def wt (P : List (List Int)) (n : Nat) (t : Nat) (x : Int) : Nat := if x < 0 then 0 else n - rk P x.toNat t
def pot (P : List (List Int)) (n : Nat) (sl : List Int) : Nat := ((List.range sl.length).map fun t => wt P n t (sl.getD t (-1))).sum
def ins (P : List (List Int)) (R : List (List (List Int))) (sl : List Int) (a : Nat) : List Int × List (Nat × Nat) := (insG P R (pot P R.length sl + R.length + 1) sl a 0).getD (sl, [])
theorem Go.start {sl : List Int} {a : Nat} (g : Good m n P sl) (ha : a < m) (fr : ∀ t, ¬ At sl t a) (room : ∃ t, t < n ∧ sl[t]? = some (-1)) : Go m n P sl a 0 := by
  have r := room
  obtain ⟨t, lt, _⟩ := r
  exact ⟨g, ha, by omega, fr, fun j lj => absurd lj (Nat.not_lt_zero _), room⟩
end
end DL
namespace DL
open PySem PySem.Spec PyProof.Rows L2 LamX PySem.W SL
end DL
namespace DL
open PySem PySem.Spec PyProof.Rows L2 LamX PySem.W SL
end DL
namespace DL
open PySem PySem.Spec PyProof.Rows L2 LamX PySem.W SL
end DL
namespace DL
open PySem PySem.Spec PyProof.Rows L2 LamX PySem.W SL
end DL
namespace ML
def step (f c : Int) : Int := if f + c - 1 > 0 then f + c - 1 else 0
def run (f : Int) (c : List Int) : Int := c.foldl step f
def scan (f : Int) : List Int → List Int
  | [] => []
  | x :: r => step f x :: scan (step f x) r
theorem step_nn (f c : Int) : 0 ≤ step f c := by unfold step; split <;> omega
theorem step_mono {f g c : Int} (h : f ≤ g) : step f c ≤ step g c := by unfold step; split <;> split <;> omega
theorem run_nn {f : Int} (h : 0 ≤ f) : ∀ c : List Int, 0 ≤ run f c := by
  intro c
  induction c generalizing f with
  | nil => exact h
  | cons x r ih => exact ih (step_nn f x)
theorem run_mono {f g : Int} (h : f ≤ g) : ∀ c : List Int, run f c ≤ run g c := by
  intro c
  induction c generalizing f g with
  | nil => exact h
  | cons x r ih => exact ih (step_mono h)
theorem run_cons (f x : Int) (r : List Int) : run f (x :: r) = run (step f x) r := rfl
theorem run_append (f : Int) (a b : List Int) : run f (a ++ b) = run (run f a) b := by unfold run; rw [List.foldl_append]
theorem scan_length (f : Int) : ∀ c : List Int, (scan f c).length = c.length := by
  intro c
  induction c generalizing f with
  | nil => rfl
  | cons x r ih => show _ + 1 = _ + 1; rw [ih]
theorem scan_at (f : Int) : ∀ (c : List Int) (i : Nat), i < c.length → (scan f c)[i]? = some (run f (c.take (i + 1))) := by
  intro c
  induction c generalizing f with
  | nil => intro i h; cases h
  | cons x r ih =>
    intro i h
    cases i with
    | zero => rfl
    | succ i =>
      show (scan (step f x) r)[i]? = _
      rw [ih _ i (by simpa using h)]
      rfl
def sumL (c : List Int) : Int := c.foldr (· + ·) 0
theorem sumL_cons (x : Int) (r : List Int) : sumL (x :: r) = x + sumL r := rfl
theorem run_either : ∀ (c : List Int) (f g : Int), f ≤ g → run g c = run f c ∨ run g c = g + sumL c - c.length := by
  intro c
  induction c with
  | nil => intro f g h; right; show g = g + 0 - ((0 : Nat) : Int); omega
  | cons x r ih =>
    intro f g h
    rw [run_cons, run_cons, sumL_cons, List.length_cons]
    by_cases e : g + x - 1 > 0
    · have eg : step g x = g + x - 1 := by unfold step; rw [if_pos e]
      rcases ih (step f x) (step g x) (step_mono h) with z | z
      · exact .inl z
      · right; rw [z, eg]; omega
    · have eg : step g x = 0 := by unfold step; rw [if_neg e]
      have ef : step f x = 0 := by unfold step; rw [if_neg (by omega)]
      left; rw [eg, ef]
theorem run_again {c : List Int} (room : sumL c ≤ c.length) : run (run 0 c) c = run 0 c := by
  have nn : 0 ≤ run 0 c := run_nn (Int.le_refl 0) c
  rcases run_either c 0 (run 0 c) nn with z | z
  · exact z
  · have := run_mono nn c
    omega
theorem scan_zero : ∀ (c : List Int) (x y : Int), y < x → run x c = run y c → (0 : Int) ∈ scan x c := by
  intro c
  induction c with
  | nil => intro x y h e; have : x = y := e; omega
  | cons a r ih =>
    intro x y h e
    by_cases q : step x a = step y a
    · have : step x a = 0 := by
        unfold step at q ⊢
        split at q <;> split at q <;> omega
      show (0 : Int) ∈ step x a :: scan (step x a) r
      rw [this]
      exact List.mem_cons_self
    · have : step y a < step x a := by
        have := step_mono (c := a) (Int.le_of_lt h)
        omega
      exact List.mem_cons_of_mem _ (ih _ _ this e)
def flowsI (c : List Int) : List Int := scan (run 0 c) c
theorem flowsI_length (c : List Int) : (flowsI c).length = c.length := scan_length _ _
theorem scan_last {c : List Int} (f : Int) (h : c ≠ []) : (scan f c)[c.length - 1]? = some (run f c) := by
  have l := List.length_pos_iff.mpr h
  rw [scan_at f c (c.length - 1) (by omega), show c.length - 1 + 1 = c.length by omega, List.take_length]
theorem flowsI_zero {c : List Int} (h : c ≠ []) (room : sumL c ≤ c.length) : (0 : Int) ∈ flowsI c := by
  by_cases e : run 0 c = 0
  · have z := scan_last (run 0 c) h
    rw [run_again room, e] at z
    unfold flowsI
    rw [e]
    exact List.mem_of_getElem? z
  · have nn : 0 ≤ run 0 c := run_nn (Int.le_refl 0) c
    exact scan_zero c (run 0 c) 0 (by omega) (run_again room)
structure Flow (n : Nat) (c f : Nat → Int) : Prop where
  per : ∀ i, f (i + n) = f i
  nn : ∀ i, 0 ≤ f i
  rec_ : ∀ i, f (i + 1) = step (f i) (c (i + 1))
  zero : ∃ z, f z = 0
def cy (c : List Int) (i : Nat) : Int := c.getD (i % c.length) 0
theorem cy_per (c : List Int) (i : Nat) : cy c (i + c.length) = cy c i := by unfold cy; rw [Nat.add_mod_right]
theorem cy_lt {c : List Int} {i : Nat} (h : i < c.length) : cy c i = c.getD i 0 := by unfold cy; rw [Nat.mod_eq_of_lt h]
theorem per_mul {n : Nat} {f : Nat → Int} (h : ∀ i, f (i + n) = f i) (i : Nat) : ∀ m, f (i + n * m) = f i
  | 0 => rfl
  | m + 1 => by rw [Nat.mul_succ, ← Nat.add_assoc, h, per_mul h i m]
theorem per_mod {n : Nat} {f : Nat → Int} (h : ∀ i, f (i + n) = f i) (i : Nat) : f (i % n) = f i := by
  have z := per_mul h (i % n) (i / n)
  rw [Nat.mod_add_div] at z
  exact z.symm
theorem getD_of {c : List Int} {i : Nat} {x : Int} (h : c[i]? = some x) : c.getD i 0 = x := by rw [List.getD_eq_getElem?_getD, h]; rfl
theorem flowsI_flow {c : List Int} (h : c ≠ []) (room : sumL c ≤ c.length) : Flow c.length (cy c) (cy (flowsI c)) := by
  have l := List.length_pos_iff.mpr h
  have lf := flowsI_length c
  have at_ : ∀ i, i < c.length → cy (flowsI c) i = run (run 0 c) (c.take (i + 1)) := fun i hi => by
    rw [cy_lt (by rw [lf]; exact hi)]
    exact getD_of (scan_at _ _ _ hi)
  have per : ∀ i, cy (flowsI c) (i + c.length) = cy (flowsI c) i := fun i => by
    have z := cy_per (flowsI c) i
    rw [lf] at z
    exact z
  refine ⟨per, fun i => ?_, fun i => ?_, ?_⟩
  · rw [← per_mod per, at_ _ (Nat.mod_lt _ l)]
    exact run_nn (run_nn (Int.le_refl 0) c) _
  · rw [← per_mod per i, ← per_mod per (i + 1), ← per_mod (cy_per c) (i + 1)]
    have lt := Nat.mod_lt i l
    have tk : ∀ k, k < c.length → c.take (k + 1) = c.take k ++ [c.getD k 0] := fun k hk => by
      rw [List.take_succ, List.getElem?_eq_getElem hk, List.getD_eq_getElem?_getD, List.getElem?_eq_getElem hk]
      rfl
    by_cases e : i % c.length + 1 = c.length
    · have e2 : (i + 1) % c.length = 0 := by
        have : (i + 1) % c.length = (i % c.length + 1) % c.length := by rw [Nat.add_mod]; simp
        rw [this, e, Nat.mod_self]
      rw [e2, at_ _ l, at_ _ lt, e, List.take_length, tk 0 l, run_append, run_again room, cy_lt l]
      rfl
    · have e2 : (i + 1) % c.length = i % c.length + 1 := by
        have : (i + 1) % c.length = (i % c.length + 1) % c.length := by rw [Nat.add_mod]; simp
        rw [this, Nat.mod_eq_of_lt (by omega)]
      rw [e2, at_ _ (by omega), at_ _ lt, tk _ (show i % c.length + 1 < c.length by omega), run_append, cy_lt (by omega)]
      rfl
  · obtain ⟨i, hi⟩ := List.mem_iff_getElem?.mp (flowsI_zero h room)
    refine ⟨i, ?_⟩
    have lt := (List.getElem?_eq_some_iff.mp hi).1
    rw [cy_lt lt]
    exact getD_of hi
theorem Flow.le {n : Nat} {c f g : Nat → Int} (F : Flow n c f) (G : Flow n c g) (n0 : 0 < n) (i : Nat) : f i ≤ g i := by
  obtain ⟨z, hz⟩ := F.zero
  have up : ∀ k, f (z + k) ≤ g (z + k) := by
    intro k
    induction k with
    | zero => rw [Nat.add_zero, hz]; exact G.nn z
    | succ k ih => rw [← Nat.add_assoc, F.rec_, G.rec_]; exact step_mono ih
  have e : i + n * (z + 1) = z + (i + n * (z + 1) - z) := by
    have : z + 1 ≤ n * (z + 1) := Nat.le_mul_of_pos_left _ n0
    omega
  rw [← per_mul F.per i (z + 1), ← per_mul G.per i (z + 1), e]
  exact up _
theorem Flow.one {n : Nat} {c f g : Nat → Int} (F : Flow n c f) (G : Flow n c g) (n0 : 0 < n) (i : Nat) : f i = g i := by
  have := F.le G n0 i
  have := G.le F n0 i
  omega
end ML
namespace ML
def sumN (n : Nat) (g : Nat → Int) : Int := match n with
  | 0 => 0
  | n + 1 => sumN n g + g n
theorem sumN_congr {n : Nat} {g h : Nat → Int} (e : ∀ i, i < n → g i = h i) : sumN n g = sumN n h := by
  induction n with
  | zero => rfl
  | succ n ih => show _ + _ = _ + _; rw [ih fun i hi => e i (by omega), e n (by omega)]
theorem sumN_add (n : Nat) (g h : Nat → Int) : sumN n (fun i => g i + h i) = sumN n g + sumN n h := by
  induction n with
  | zero => rfl
  | succ n ih => show sumN n (fun i => g i + h i) + (g n + h n) = (sumN n g + g n) + (sumN n h + h n); rw [ih]; omega
theorem sumN_le {n : Nat} {g h : Nat → Int} (e : ∀ i, i < n → g i ≤ h i) : sumN n g ≤ sumN n h := by
  induction n with
  | zero => exact Int.le_refl _
  | succ n ih =>
    show sumN n g + g n ≤ sumN n h + h n
    have := ih fun i hi => e i (by omega)
    have := e n (by omega)
    omega
theorem sumN_first (n : Nat) (g : Nat → Int) : sumN (n + 1) g = g 0 + sumN n (fun i => g (i + 1)) := by
  induction n with
  | zero => show (0 : Int) + g 0 = g 0 + 0; omega
  | succ n ih =>
    show sumN (n + 1) g + g (n + 1) = g 0 + (sumN n (fun i => g (i + 1)) + g (n + 1))
    rw [ih]
    omega
theorem sumN_shift {n : Nat} {g : Nat → Int} (per : g n = g 0) : sumN n (fun i => g (i + 1)) = sumN n g := by
  have a := sumN_first n g
  have b : sumN (n + 1) g = sumN n g + g n := rfl
  omega
theorem sumN_shifts {n : Nat} {g : Nat → Int} (per : ∀ i, g (i + n) = g i) (s : Nat) : sumN n (fun i => g (i + s)) = sumN n g := by
  induction s with
  | zero => rfl
  | succ s ih =>
    rw [← ih, ← sumN_shift (g := fun i => g (i + s)) (by show g (n + s) = g (0 + s); rw [Nat.add_comm n s, per, Nat.zero_add])]
    exact sumN_congr fun i _ => by show g (i + (s + 1)) = g (i + 1 + s); rw [show i + (s + 1) = i + 1 + s by omega]
theorem sumL_append (a b : List Int) : sumL (a ++ b) = sumL a + sumL b := by
  induction a with
  | nil => show sumL b = 0 + sumL b; omega
  | cons x r ih => show x + sumL (r ++ b) = x + sumL r + sumL b; rw [ih]; omega
theorem sumL_N : ∀ l : List Int, sumL l = sumN l.length (fun i => l.getD i 0) := by
  intro l
  induction l with
  | nil => rfl
  | cons x r ih =>
    rw [sumL_cons, List.length_cons, sumN_first, ih]
    rfl
theorem sumL_cy (l : List Int) : sumL l = sumN l.length (cy l) := by
  rw [sumL_N]
  exact sumN_congr fun i h => (cy_lt h).symm
def dist (n a i : Nat) : Nat := (i + (n - a)) % n
theorem dist_lt {n a i : Nat} (h : 0 < n) : dist n a i < n := Nat.mod_lt _ h
theorem dist_succ {n a i : Nat} (h : 0 < n) : dist n a (i + 1) = if dist n a i + 1 = n then 0 else dist n a i + 1 := by
  unfold dist
  have lt := Nat.mod_lt (i + (n - a)) h
  have e : (i + 1 + (n - a)) % n = ((i + (n - a)) % n + 1) % n := by
    rw [show i + 1 + (n - a) = (i + (n - a)) + 1 by omega]
    rw [Nat.add_mod]; simp
  rw [e]
  split
  · rename_i q; rw [q, Nat.mod_self]
  · exact Nat.mod_eq_of_lt (by omega)
theorem dist_add {n a k : Nat} (ha : a < n) (hk : k < n) : dist n a (a + k) = k := by
  unfold dist
  rw [show a + k + (n - a) = k + n by omega, Nat.add_mod_right, Nat.mod_eq_of_lt hk]
theorem dist_per {n a i : Nat} : dist n a (i + n) = dist n a i := by
  unfold dist
  rw [show i + n + (n - a) = i + (n - a) + n by omega, Nat.add_mod_right]
theorem dist_zero {n a i : Nat} (ha : a < n) (hi : i < n) : dist n a i = 0 ↔ i = a := by
  unfold dist
  constructor
  · intro h
    have h' := Nat.dvd_of_mod_eq_zero h
    obtain ⟨m, hm⟩ := h'
    have : m = 1 := by
      rcases Nat.lt_or_ge m 2 with q | q
      · rcases Nat.eq_zero_or_pos m with z | z
        · subst z; omega
        · omega
      · have : n * 2 ≤ n * m := Nat.mul_le_mul_left n q
        omega
    subst this
    omega
  · intro h
    subst h
    rw [show i + (n - i) = n by omega, Nat.mod_self]
theorem dist_eq {n a i k : Nat} (ha : a < n) (hi : i < n) (hk : k < n) : dist n a i = k ↔ i = (a + k) % n := by
  unfold dist
  rcases Nat.lt_or_ge i a with q | q
  · rw [show i + (n - a) = n - a + i by omega, Nat.mod_eq_of_lt (by omega)]
    constructor
    · intro h
      rw [show a + k = i + n by omega, Nat.add_mod_right, Nat.mod_eq_of_lt hi]
    · intro h
      rcases Nat.lt_or_ge (a + k) n with w | w
      · rw [Nat.mod_eq_of_lt w] at h; omega
      · rw [show a + k = (a + k - n) + n by omega, Nat.add_mod_right, Nat.mod_eq_of_lt (by omega)] at h; omega
  · rw [show i + (n - a) = (i - a) + n by omega, Nat.add_mod_right, Nat.mod_eq_of_lt (by omega)]
    constructor
    · intro h
      rw [show a + k = i by omega, Nat.mod_eq_of_lt hi]
    · intro h
      rcases Nat.lt_or_ge (a + k) n with w | w
      · rw [Nat.mod_eq_of_lt w] at h; omega
      · rw [show a + k = (a + k - n) + n by omega, Nat.add_mod_right, Nat.mod_eq_of_lt (by omega)] at h; omega
def tk (c f : Nat → Int) (i : Nat) : Prop := 0 < f i + c (i + 1)
def addC (n a : Nat) (c : Nat → Int) : Nat → Int := fun i => c i + if dist n a i = 0 then 1 else 0
def addF (n a L : Nat) (f : Nat → Int) : Nat → Int := fun i => f i + if dist n a i < L then 1 else 0
theorem Flow.at_ {n : Nat} {c f : Nat → Int} (F : Flow n c f) {i : Nat} (h : tk c f i) : f (i + 1) = f i + c (i + 1) - 1 := by
  unfold tk at h
  rw [F.rec_]
  unfold step
  split <;> omega
theorem Flow.off {n : Nat} {c f : Nat → Int} (F : Flow n c f) {i : Nat} (h : ¬ tk c f i) : f (i + 1) = 0 := by
  unfold tk at h
  rw [F.rec_]
  unfold step
  split <;> omega
structure Passed (n a L : Nat) (c f : Nat → Int) : Prop where
  ha : a < n
  lt : L < n
  yes : ∀ i, dist n a (i + 1) < L → tk c f i
  no : ∀ i, dist n a (i + 1) = L → ¬ tk c f i
theorem Flow.more {n a L : Nat} {c f : Nat → Int} (F : Flow n c f) (c0 : ∀ i, 0 ≤ c i) (P : Passed n a L c f) : Flow n (addC n a c) (addF n a L f) := by
  have n0 : 0 < n := Nat.lt_of_le_of_lt (Nat.zero_le _) P.ha
  refine ⟨fun i => ?_, fun i => ?_, fun i => ?_, ?_⟩
  · unfold addF; rw [F.per, dist_per]
  · unfold addF; have := F.nn i; split <;> omega
  · unfold addF addC
    have ds := dist_succ (n := n) (a := a) (i := i) n0
    have lt0 := dist_lt (n := n) (a := a) (i := i) n0
    have ci := c0 (i + 1)
    have fi := F.nn i
    rcases Nat.lt_trichotomy (dist n a (i + 1)) L with q | q | q
    · have t := P.yes i q
      have e := F.at_ t
      unfold tk at t
      unfold step
      by_cases z : dist n a i + 1 = n
      · rw [if_pos z] at ds
        rw [if_pos q, e, if_neg (show ¬ dist n a i < L by have := P.lt; omega), if_pos ds]
        split <;> omega
      · rw [if_neg z] at ds
        rw [if_pos q, e, if_pos (show dist n a i < L by omega), if_neg (show ¬ dist n a (i + 1) = 0 by omega)]
        split <;> omega
    · have t := P.no i q
      have e := F.off t
      unfold tk at t
      unfold step
      by_cases z : dist n a i + 1 = n
      · rw [if_pos z] at ds
        rw [if_neg (show ¬ dist n a (i + 1) < L by omega), e, if_neg (show ¬ dist n a i < L by have := P.lt; omega), if_pos ds]
        split <;> omega
      · rw [if_neg z] at ds
        rw [if_neg (show ¬ dist n a (i + 1) < L by omega), e, if_pos (show dist n a i < L by omega), if_neg (show ¬ dist n a (i + 1) = 0 by omega)]
        split <;> omega
    · have z : ¬ dist n a i + 1 = n := fun z => by rw [if_pos z] at ds; omega
      rw [if_neg z] at ds
      rw [if_neg (show ¬ dist n a (i + 1) < L by omega), if_neg (show ¬ dist n a i < L by omega), if_neg (show ¬ dist n a (i + 1) = 0 by omega), F.rec_]
      simp
  · refine ⟨a + L + n, ?_⟩
    have e : a + L + n = (a + L + (n - 1)) + 1 := by omega
    have d : dist n a ((a + L + (n - 1)) + 1) = L := by rw [← e, dist_per, dist_add P.ha P.lt]
    unfold addF
    rw [e, d, F.off (P.no _ d), if_neg (Nat.lt_irrefl _)]
    rfl
theorem tk_more {n a L : Nat} {c f : Nat → Int} (F : Flow n c f) (c0 : ∀ i, 0 ≤ c i) (P : Passed n a L c f) (i : Nat) : tk (addC n a c) (addF n a L f) i ↔ tk c f i ∨ dist n a (i + 1) = L := by
  have n0 : 0 < n := Nat.lt_of_le_of_lt (Nat.zero_le _) P.ha
  have ds := dist_succ (n := n) (a := a) (i := i) n0
  have lt0 := dist_lt (n := n) (a := a) (i := i) n0
  have ci := c0 (i + 1)
  have fi := F.nn i
  rcases Nat.lt_trichotomy (dist n a (i + 1)) L with q | q | q
  · have t := P.yes i q
    refine ⟨fun _ => .inl t, fun _ => ?_⟩
    unfold tk at t ⊢
    unfold addC addF
    split <;> split <;> omega
  · refine ⟨fun _ => .inr q, fun _ => ?_⟩
    unfold tk addC addF
    by_cases z : dist n a i + 1 = n
    · rw [if_pos z] at ds
      rw [if_pos ds]
      split <;> omega
    · rw [if_neg z] at ds
      rw [if_pos (show dist n a i < L by omega)]
      split <;> omega
  · have z : ¬ dist n a i + 1 = n := fun z => by rw [if_pos z] at ds; omega
    rw [if_neg z] at ds
    unfold tk addC addF
    rw [if_neg (show ¬ dist n a i < L by omega), if_neg (show ¬ dist n a (i + 1) = 0 by omega)]
    constructor
    · intro h; left; omega
    · rintro (h | h)
      · omega
      · omega
theorem Flow.room {n : Nat} {c f : Nat → Int} (F : Flow n c f) (cp : ∀ i, c (i + n) = c i) (n0 : 0 < n) (h : sumN n c < n) : ∃ i, i < n ∧ ¬ tk c f i := by
  apply Classical.byContradiction
  intro no
  have all : ∀ i, i < n → tk c f i := fun i hi => Classical.byContradiction fun q => no ⟨i, hi, q⟩
  have tel : ∀ m, m ≤ n → sumN m (fun i => c (i + 1)) = f m - f 0 + m := by
    intro m
    induction m with
    | zero => intro _; show (0 : Int) = f 0 - f 0 + ((0 : Nat) : Int); omega
    | succ m ih =>
      intro hm
      show sumN m (fun i => c (i + 1)) + c (m + 1) = _
      rw [ih (by omega), F.at_ (all m (by omega))]
      omega
  have a := tel n (Nat.le_refl n)
  have b := sumN_shift (n := n) (g := c) (by have := cp 0; rw [Nat.zero_add] at this; exact this)
  have p := F.per 0
  rw [Nat.zero_add] at p
  omega
theorem sum_addF {n a L : Nat} {f : Nat → Int} (ha : a < n) (hL : L ≤ n) : sumN n (addF n a L f) = sumN n f + L := by
  unfold addF
  rw [sumN_add]
  have n0 : 0 < n := by omega
  have e : sumN n (fun i => if dist n a i < L then (1 : Int) else 0) = sumN n (fun i => if i % n < L then (1 : Int) else 0) :=
    sumN_shifts (g := fun i => if i % n < L then (1 : Int) else 0) (fun i => by simp only [Nat.add_mod_right]) (n - a)
  have cnt : ∀ m, m ≤ n → sumN m (fun i => if i % n < L then (1 : Int) else 0) = ((min m L : Nat) : Int) := by
    intro m
    induction m with
    | zero => intro _; simp [sumN]
    | succ m ih =>
      intro hm
      show sumN m _ + _ = _
      rw [ih (by omega)]
      simp only [Nat.mod_eq_of_lt (show m < n by omega)]
      split <;> omega
  rw [e, cnt n (Nat.le_refl n), Nat.min_eq_right hL]
end ML
namespace ML
end ML
namespace DL
open PySem PySem.Spec PyProof.Rows L2 LamX PySem.W SL
theorem for_list {α : Type} {I : DIt} {g : DTG} {F : DTS} {E : DEnds} {b : DSt} (enc : α → D) (W : List α → DEnv → DSt → Prop)
    (turn : ∀ x xs r st (N : DEnv → DSt → Prop), (∀ r st, Wk b (W xs) r st → N r st) → W (x :: xs) r st → okI I st (g (enc x) r st fun r1 st1 => F { nx := N, rt := E.rt, bk := E.nx, ct := N } r1 st1)) (done : ∀ r st, W [] r st → okI I st (E.nx r st)) :
    ∀ (items : List α) (r : DEnv) (st : DSt), W items r st → forL I g F E b (items.map enc) r st
  | [], r, st, h => done r st h
  | d :: ds, r, st, h => by
    refine turn d ds r st _ (fun r st w => ?_) h
    rcases w with w | ⟨r', n, h1, h2, h3, h4, h5, w⟩
    · exact .inl (for_list enc W turn done ds r st w)
    · exact .inr ⟨r', n, h1, h2, h3, h4, h5, for_list enc W turn done ds r' _ w⟩
def pairD (p : Int × Int) : D := .tup [.int p.1, .int p.2]
def Runs (rs : List (Int × Int)) (d : D) : Prop := d = .lst (rs.map pairD) ∨ d = .tup (rs.map pairD)
theorem Runs.it {rs : List (Int × Int)} {d : D} (h : Runs rs d) (st : DSt) : itOf st d = some ⟨rs.map pairD, none⟩ := by rcases h with rfl | rfl <;> rfl
theorem Runs.clo {rs : List (Int × Int)} {d : D} (h : Runs rs d) (n : Nat) : DL.clo n d = true := by
  have z : ∀ rs : List (Int × Int), clos n (rs.map pairD) = true := by
    intro rs
    induction rs with
    | nil => rfl
    | cons p r ih => rw [List.map_cons]; simp [clos, DL.clo, pairD, ih]
  rcases h with rfl | rfl <;> simp only [DL.clo] <;> exact z rs
end DL
namespace DL
open PySem PySem.Spec PyProof.Rows L2 LamX PySem.W SL
structure Cnt (c : List Int) : Prop where
  ne : c ≠ []
  few : c.length ≤ 900
  nn : ∀ x ∈ c, 0 ≤ x
  room : ML.sumL c ≤ c.length
theorem Cnt.pos {c : List Int} (h : Cnt c) : 0 < c.length := List.length_pos_iff.mpr h.ne
theorem Cnt.flow {c : List Int} (h : Cnt c) : ML.Flow c.length (ML.cy c) (ML.cy (ML.flowsI c)) := ML.flowsI_flow h.ne h.room
theorem sum_mem_le : ∀ {l : List Int}, (∀ x ∈ l, 0 ≤ x) → ∀ x ∈ l, x ≤ ML.sumL l
  | y :: r, h, x, hx => by
    have s0 : 0 ≤ ML.sumL r := by
      have : ∀ {l : List Int}, (∀ x ∈ l, 0 ≤ x) → 0 ≤ ML.sumL l := by
        intro l
        induction l with
        | nil => intro _; exact Int.le_refl 0
        | cons z l ih => intro h; rw [ML.sumL_cons]; have := ih fun x hx => h x (List.mem_cons_of_mem _ hx); have := h z List.mem_cons_self; omega
      exact this fun x hx => h x (List.mem_cons_of_mem _ hx)
    rw [ML.sumL_cons]
    rcases List.mem_cons.mp hx with z | z
    · omega
    · have := sum_mem_le (fun x hx => h x (List.mem_cons_of_mem _ hx)) x z
      have := h y List.mem_cons_self
      omega
theorem Cnt.le {c : List Int} (h : Cnt c) {x : Int} (hx : x ∈ c) : x ≤ c.length := Int.le_trans (sum_mem_le h.nn x hx) h.room
def isTk (c : List Int) (s : Nat) : Bool := decide (0 < ML.cy (ML.flowsI c) (s + (c.length - 1)) + c.getD s 0)
def takenI (c : List Int) : List Int := ((List.range c.length).filter (isTk c)).map fun s : Nat => (s : Int)
def waitsI (c : List Int) : List Int := (List.range c.length).flatMap fun s => (List.range (c.getD s 0).toNat).map fun k : Nat => ML.cy (ML.flowsI c) (s + (c.length - 1)) + (k : Int)
def sqSum (l : List Int) : Int := ML.sumL (l.map fun x => x * x)
end DL
namespace DL
open PySem PySem.Spec PyProof.Rows L2 LamX PySem.W SL
section
variable {st : DSt} {p : Nat} {o o2 : O} {junk : List O} {x y z : O}
theorem pot_app (lt : p < st.length) : (st.set p o ++ junk).set p o2 = st.set p o2 ++ junk := by
  rw [List.set_append_left _ _ (by rw [List.length_set]; exact lt), List.set_set]
theorem pot_at {k : Nat} (lt : p < st.length) (h : PotO k o) : Pot k p (st.set p o ++ junk) := (Pot.set lt h).app
theorem own0 : (st.set p o ++ x :: junk)[st.length]? = some x := by
  rw [List.getElem?_append_right (by rw [List.length_set]; exact Nat.le_refl _), List.length_set, Nat.sub_self]
  rfl
end
theorem take_ev {p : Nat} {z : Int} {n : Nat} {st : DSt} {Q : DK} (pot : Pot (n + 1) p st) (z0 : 0 < z) (z1 : z ≤ 1000) (q : ∀ (r : Nat) (o : O), (r : Int) < z → PotO n o → Q (.int r) (st.set p o)) : g_take [.ref p, .int z] st Q :=
  ⟨p, z, n, rfl, pot, z0, z1, fun r o r0 r1 po => by
    obtain ⟨k, rfl⟩ := Int.eq_ofNat_of_zero_le r0
    exact q k o r1 po⟩
theorem pick_ev {p : Nat} {xs : List D} {n : Nat} {st : DSt} {Q : DK} (pot : Pot (n + 1) p st) (ne : xs ≠ []) (few : xs.length ≤ 1000) (q : ∀ (d : D) (o : O), d ∈ xs → PotO n o → Q d (st.set p o)) : g_pick [.ref p, .lst xs] st Q :=
  ⟨p, _, xs, n, rfl, fun z => (by cases z), rfl, ne, few, pot, q⟩
theorem sum_set {l : List Int} {i : Nat} (h : i < l.length) (x : Int) : ML.sumL (l.set i x) = ML.sumL l - l.getD i 0 + x := by
  induction l generalizing i with
  | nil => cases h
  | cons y r ih =>
    cases i with
    | zero => show x + ML.sumL r = y + ML.sumL r - y + x; omega
    | succ i =>
      show y + ML.sumL (r.set i x) = y + ML.sumL r - r.getD i 0 + x
      rw [ih (by simpa using h)]
      omega
theorem getD_mem {l : List Int} {i : Nat} (h : i < l.length) : l.getD i 0 ∈ l := by
  rw [List.getD_eq_getElem?_getD, List.getElem?_eq_getElem h]
  exact List.getElem_mem h
end DL
namespace DL
open PySem PySem.Spec PyProof.Rows L2 LamX PySem.W SL
section
variable {T : List (Addr × Str)} {X : Cx} {a b : Expr} {fa fb : DTE} {pos : Pos}
end
end DL
namespace DL
open PySem PySem.Spec PyProof.Rows L2 LamX PySem.W SL
def onT (x : D) (k : List D → Prop) : Prop := match x with | .tup xs => k xs | _ => False
theorem onT.of {x : D} {k : List D → Prop} (h : onT x k) : ∃ xs, x = .tup xs ∧ k xs := by
  cases x with
  | tup xs => exact ⟨xs, rfl, h⟩
  | _ => exact h.elim
section
variable {T : List (Addr × Str)} {X : Cx}
end
end DL
namespace DL
open PySem PySem.Spec PyProof.Rows L2 LamX PySem.W SL
section
variable {T : List (Addr × Str)} {X : Cx} {K : Frag} {a b : Expr} {fa fb : DTE} {pos : Pos}
end
end DL
namespace SL
open PySem PySem.Spec PyProof.Rows L2
section
variable {prog : Program} {w : World} {A : Around} {R : Result → Shared → Prop} {itr : Addr} {seen mv : List Addr} {n : Nat} {Pk : Nat → Value → Prop} {Stt : Nat → Heap → Prop}
end
section
variable {prog : Program} {w : World} {A : Around} {E : Value → Shared → Prop} {s : Shared}
end
end SL
namespace DL
open PySem PySem.Spec PyProof.Rows L2 LamX PySem.W SL
section
variable {X : Cx}
end
end DL
namespace SL
open PySem PySem.Spec PyProof.Rows L2
section
variable {prog : Program} {w : World} {A : Around} {E : Value → Shared → Prop} {s : Shared}
end
section
variable {prog : Program} {w : World} {A : Around} {R : Result → Shared → Prop}
end
section
variable {prog : Program} {w : World} {A : Around} {E : Value → Shared → Prop} {s : Shared}
end
end SL
namespace SL
open PySem PySem.Spec PyProof.Rows L2
structure NewE (H H2 : Hp) (box : Addr) (xs : List V) (ps : List Addr) : Prop where
  len : ps.length = xs.length
  nd : ps.Nodup
  nb : H box = none
  np : ∀ p ∈ ps, p ≠ box ∧ H p = none
  box_ : H2 box = some (.lst (ps.map V.ref))
  pair : ∀ (j : Nat) (p : Addr) (x : V), ps[j]? = some p → xs[j]? = some x → H2 p = some (.tup [.int (j : Nat), x])
  old : ∀ b, b ≠ box → b ∉ ps → H2 b = H b
theorem NewE.ext {H H2 : Hp} {box : Addr} {xs : List V} {ps : List Addr} (N : NewE H H2 box xs ps) {b : Addr} {o : HO} (e : H b = some o) : H2 b = some o := by
  rw [N.old b (fun z => by rw [z, N.nb] at e; cases e) (fun z => by rw [(N.np b z).2] at e; cases e)]
  exact e
section
variable {X : Cx} {pins : List (Addr × Obj)} {σ : L2.St} {H : Hp} {s : Shared}
end
end SL
namespace DL
open PySem PySem.Spec PyProof.Rows L2 LamX PySem.W SL
def dLEnum (fs : DTA) : DTE := fun r st Q => fs r st fun ds st1 => on1 ds fun x => match x with
  | .tup xs => Q (.lst (enumD xs)) st1
  | _ => False
@[simp] theorem e_lenum {fs : DTA} {r : DEnv} {st : DSt} {Q : DK} : dLEnum fs r st Q = fs r st fun ds st1 => on1 ds fun x => match x with
  | .tup xs => Q (.lst (enumD xs)) st1
  | _ => False := rfl
section
variable {T : List (Addr × Str)} {X : Cx}
end
end DL
set_option maxHeartbeats 2000000
namespace SL
open PySem PySem.Spec PyProof.Rows L2
section
variable {X : Cx} {pins : List (Addr × Obj)} {σ : L2.St} {H : Hp} {s : Shared} {a : Addr} {oe : Obj} {cls : Value} {d : Option Addr}
end
section
variable {X : Cx} {x n m : Str} {c : Value} {i j : Nat} {body : List Stmt} {np pos pos' p1 p2 p3 : Pos} {tb : WX → TS}
end
end SL
set_option maxHeartbeats 2000000
namespace DL
open PySem PySem.Spec PyProof.Rows L2 LamX PySem.W SL
abbrev Fld := Option (Str × Int)
def ExD (H : Hp) (fld : Fld) (d : Option Addr) : Prop := match fld with
  | none => d = none
  | some (n, i) => ∃ dd, d = some dd ∧ H dd = some (.xd [(n, .int i)])
def Wish (T : List (Addr × Str)) (K : Frag) (mg : Str → Option Value) (M : Pl) (H : Hp) (st : DSt) (C : Str) (fld : Fld) (E : XK) : Prop :=
  ∀ (M' : Pl) (H' : Hp) (cls : Value) (d : Option Addr), Grow M H M' H' → RS T K M' st H' → mg C = some cls → ExD H' fld d → E cls d H'
theorem Wish.grow {T : List (Addr × Str)} {K : Frag} {mg : Str → Option Value} {M M1 : Pl} {H H1 : Hp} {st : DSt} {C : Str} {fld : Fld} {E : XK} (w : Wish T K mg M H st C fld E) (g : Grow M H M1 H1) : Wish T K mg M1 H1 st C fld E :=
  fun M' H' cls d g1 s m x => w M' H' cls d (g.trans g1) s m x
section
variable {T : List (Addr × Str)} {X : Cx} {M0 : Pl} {H0 : Hp} {s1 : Stmt} {rest a b : List Stmt} {F1 : DTS} {B B2 : DEnv → DSt → Prop} {c : Expr} {t : DTT} {pos : Pos}
end
section
variable {P : Program} {w : World} {K : Frag} {mg : Str → Option Value} {base : Heap}
end
section
variable {T : List (Addr × Str)} {X : Cx} {M0 : Pl} {H0 : Hp} {st0 : DSt} {C n : Str} {i : Int} {E : XK} {e : Expr} {f : DTE} {p pos rpos : Pos}
end
section
variable {P : Program} {w : World} {K : Frag} {mg : Str → Option Value} {base : Heap}
end
section
variable {P : Program} {w : World} {K : Frag} {mg : Str → Option Value} {base : Heap} {T : List (Addr × Str)}
end
end DL
set_option maxHeartbeats 2000000
namespace SL
open PySem PySem.Spec PyProof.Rows L2 LamX
section
variable {X : Cx}
section
variable {cN fN Cj lab fld : Str} {v1 : Vis X.env.scope cN} {q1 q2 q3 q4 q5 q6 q7 q8 q9 pos : Pos} {kk : Nat} {cj : Addr}
end
end
end SL
set_option maxHeartbeats 2000000
namespace SL
open PySem PySem.Spec PyProof.Rows L2 LamX
section
variable {X : Cx} {pins : List (Addr × Obj)} {σ : L2.St} {H HZ : Hp} {s s1 : Shared} {W : WX} {E : XK}
end
end SL
set_option maxHeartbeats 2000000
namespace SL
open PySem PySem.Spec PyProof.Rows L2 LamX
open DL (Fld PS.imp PSs.imp PE.imp)
section
variable {X : Cx} {C : Addr} {lab : Str} {fld : Fld} {rest body : List Stmt} {pos q1 q2 q3 q4 q5 q6 q7 q8 q9 : Pos} {cN fN : Str} {e e2 : Expr} {c : V} {cv : Value}
end
section
variable {X : Cx} {C CS : Addr} {lab : Str} {fld : Fld}
end
end SL
set_option maxHeartbeats 2000000
namespace DL
open PySem PySem.Spec PyProof.Rows L2 LamX PySem.W SL
section
variable {T : List (Addr × Str)} {X : Cx}
end
end DL
set_option maxHeartbeats 2000000
namespace DL
open PySem PySem.Spec PyProof.Rows L2 LamX PySem.W SL
section
variable {T : List (Addr × Str)} {X : Cx}
end
section
variable {K : Frag}
theorem kit_ty {c : Addr} {T : String} {b : Bool} (hm : kitMeta T = true) (h3 : subIn K (.ref c) (.type T) = some b) : kitOne K (.ref c) (.type T) = some b := by
  have n2 : ((Value.ref c) == Value.type T) = false := by
    cases h : ((Value.ref c) == Value.type T) with
    | false => rfl
    | true => exact absurd (beq_iff_eq.mp h) (fun z => nomatch z)
  unfold kitOne
  rw [n2, if_neg Bool.false_ne_true]
  show (if kitMeta T = true then subIn K (.ref c) (.type T) else none) = some b
  rw [if_pos hm]
  exact h3
end
end DL
set_option maxHeartbeats 2000000
namespace DL
open PySem PySem.Spec PyProof.Rows L2 LamX PySem.W SL
section
variable {T : List (Addr × Str)} {X : Cx} {M0 : Pl} {H0 : Hp} {B : DEnv → DSt → Prop} {e : Expr} {pos : Pos}
end
end DL
namespace SL
open PySem PySem.Spec PyProof.Rows L2 LamX DL
section
variable {X : Cx} {C CS : Addr} {n : Str} {i : Int}
end
end SL
set_option maxHeartbeats 2000000
namespace SL
open PySem PySem.Spec PyProof.Rows L2 LamX DL
section
variable {X : Cx} {C : Addr} {n : Str} {i : Int}
end
end SL
namespace DL
open PySem PySem.Spec PyProof.Rows L2 LamX PySem.W SL
section
variable {T : List (Addr × Str)} {X : Cx}
end
end DL
set_option maxHeartbeats 2000000
namespace DL
open PySem PySem.Spec PyProof.Rows L2 LamX PySem.W SL
section
variable {T : List (Addr × Str)} {X : Cx} {M0 : Pl} {H0 : Hp} {st : Stmt} {rest a b : List Stmt} {F G : DTS} {c : Expr} {t : DTT} {pos : Pos}
end
end DL
set_option maxHeartbeats 2000000
namespace DL
open PySem PySem.Spec PyProof.Rows L2 LamX PySem.W SL
section
variable {T : List (Addr × Str)} {X : Cx} {M0 : Pl} {H0 : Hp} {B : DEnv → DSt → Prop} {e : Expr} {es : List Expr} {f : DTE} {pos : Pos}
end
end DL
set_option maxHeartbeats 2000000
namespace SL
open PySem PySem.Spec PyProof.Rows L2
end SL
namespace DL
open PySem PySem.Spec PyProof.Rows L2 LamX PySem.W SL RZ
section
variable {T : List (Addr × Str)} {K : Frag} {M : Pl} {H : Hp} {st : DSt} {I : DIt} {a : Addr}
end
section
variable {T : List (Addr × Str)} {X : Cx} {e : Expr} {fs : DTA} {j0 : Nat} {p pos tpos kp cp : Pos} {elts : List Expr} {kk k : Nat}
end
end DL
set_option maxHeartbeats 2000000
namespace SL
open PySem PySem.Spec PyProof.Rows L2 LamX PySem.W
section
variable {X : Cx} {pins : List (Addr × Obj)} {σ : L2.St} {H : Hp} {s : Shared}
end
end SL
namespace DL
open PySem PySem.Spec PyProof.Rows L2 LamX PySem.W SL
end DL
namespace DL
open PySem PySem.Spec PyProof.Rows L2 LamX PySem.W SL
def DkD (st : DSt) (x : D) : Prop := onDk st x fun _ _ => True
def dGetD (fo fe ff : DTE) : DTE := fun r st Q => fo r st fun x st1 => DkD st1 x ∧ fe r st1 fun y st2 => ff r st2 fun z st3 => onDk st3 x fun n kvs => onO (keyD y) fun k => Q ((valD kvs k).getD z) st3
@[simp] theorem e_getD {fo fe ff : DTE} {r : DEnv} {st : DSt} {Q : DK} : dGetD fo fe ff r st Q = fo r st fun x st1 => DkD st1 x ∧ fe r st1 fun y st2 => ff r st2 fun z st3 => onDk st3 x fun n kvs => onO (keyD y) fun k => Q ((valD kvs k).getD z) st3 := rfl
end DL
namespace DL
open PySem PySem.Spec PyProof.Rows L2 LamX PySem.W SL
def dGet1 (fo fe : DTE) : DTE := fun r st Q => fo r st fun x st1 => DkD st1 x ∧ fe r st1 fun y st2 => onDk st2 x fun n kvs => onO (keyD y) fun k => Q ((valD kvs k).getD .non) st2
@[simp] theorem e_get1 {fo fe : DTE} {r : DEnv} {st : DSt} {Q : DK} : dGet1 fo fe r st Q = fo r st fun x st1 => DkD st1 x ∧ fe r st1 fun y st2 => onDk st2 x fun n kvs => onO (keyD y) fun k => Q ((valD kvs k).getD .non) st2 := rfl
end DL
namespace DL
open PySem PySem.Spec PyProof.Rows L2 LamX PySem.W SL
def onLk (st : DSt) (x : D) (k : Nat → Obj → List (Key × V) → List (Key × D) → Prop) : Prop := match x with
  | .ref n => match st[n]? with | some (.lk ob ys kvs) => k n ob ys kvs | _ => False
  | _ => False
theorem onLk.of {st : DSt} {d : D} {k : Nat → Obj → List (Key × V) → List (Key × D) → Prop} (h : onLk st d k) : ∃ n ob ys kvs, d = .ref n ∧ st[n]? = some (.lk ob ys kvs) ∧ k n ob ys kvs := by
  cases d with
  | ref n =>
    unfold onLk at h
    simp only at h
    split at h
    · rename_i ob ys kvs e
      exact ⟨n, ob, ys, kvs, rfl, e, h⟩
    · exact h.elim
  | _ => exact h.elim
def kD : Key → D
  | .inl i => .int i
  | .inr x => .str x
theorem RV.kD {K : Frag} {M : Pl} {H : Hp} (k : Key) : RV K M H (DL.kD k) (kV k) := by
  cases k with
  | inl i => exact .int i
  | inr x => exact .str x
def itemsK (kvs : List (Key × D)) : List D := kvs.map fun kv => .tuk [kD kv.1, kv.2]
def keysK (kvs : List (Key × D)) : List D := kvs.map fun kv => kD kv.1
def wItemsK (f : DTE) : DTI := fun r st R => f r st fun x st1 => onLk st1 x fun n ob ys kvs => R ⟨itemsK kvs, some (n, .lk ob ys kvs)⟩ st1
def wKeysK (f : DTE) : DTI := fun r st R => f r st fun x st1 => onLk st1 x fun n ob ys kvs => R ⟨keysK kvs, some (n, .lk ob ys kvs)⟩ st1
section
variable {T : List (Addr × Str)} {X : Cx} {K : Frag} {M : Pl} {H : Hp} {st : DSt} {n : Nat} {a : Addr} {ob : Obj} {ys : List (Key × V)} {kvs : List (Key × D)}
def lkN (n : Nat) (o u : O) (N : DEnv → DSt → Prop) : DEnv → DSt → Prop := fun r st => st[n]? = some o ∧ N r (st.set n u)
def lkE (n : Nat) (o u : O) (E : DEnds) : DEnds := { nx := lkN n o u E.nx, rt := fun d st => st[n]? = some o ∧ E.rt d (st.set n u), bk := lkN n o u E.bk, ct := lkN n o u E.ct }
def sLockK (i : Nat) (F : DTS) : DTS := fun E r st => onOO r[i]? fun x => onDk st x fun n kvs => ∀ ob ys, F (lkE n (.lk ob ys kvs) (.dK kvs) E) r (st.set n (.lk ob ys kvs))
def dLockK (i : Nat) (f : DTE) : DTE := fun r st Q => onOO r[i]? fun x => onDk st x fun n kvs => ∀ ob ys, f r (st.set n (.lk ob ys kvs)) fun d st1 => st1[n]? = some (.lk ob ys kvs) ∧ Q d (st1.set n (.dK kvs))
def onDr (st : DSt) (x : D) (k : List (Key × D) → Prop) : Prop := match x with
  | .ref n => match st[n]? with | some (.dK kvs) => k kvs | some (.lk _ _ kvs) => k kvs | _ => False
  | _ => False
theorem onDr.rd {d : D} {v : V} {k : List (Key × D) → Prop} (s : RS T K M st H) (r : RV K M H d v) (h : onDr st d k) : ∃ a kvs ys, v = .ref a ∧ Rd H a (.dK ys) ∧ KVs K M H kvs ys ∧ k kvs := by
  cases d with
  | ref n =>
    unfold onDr at h
    simp only at h
    cases r with
    | ref hm =>
      split at h
      · rename_i kvs e
        obtain ⟨ys, e1, e2, e3⟩ := s.obj n _ _ hm e
        exact ⟨_, kvs, ys, rfl, .inl e1, ⟨e2, e3⟩, h⟩
      · rename_i ob ys kvs e
        obtain ⟨e1, e2, e3⟩ := s.obj n _ _ hm e
        exact ⟨_, kvs, ys, rfl, .inr ⟨_, e1⟩, ⟨e2, e3⟩, h⟩
      · exact h.elim
  | _ => exact h.elim
theorem DGet.r {H : Hp} {a : Addr} {kvs : List (Key × V)} {k : Key} (e : Rd H a (.dK kvs)) : DGet H a (kV k) (valV kvs k) := .inl ⟨kvs, k, e, rfl, rfl⟩
def dGetR : DR2 := fun x y st Q => onDr st x fun kvs => onO (keyD y) fun k => onO (valD kvs k) fun d => Q d st
variable {b c : Expr} {fa fb fc : DTE} {pos : Pos} {aa : Expr}
def dInR (neg : Bool) (fy fd : DTE) : DTE := fun r st Q => fy r st fun y st1 => fd r st1 fun x st2 => onDr st2 x fun kvs => onO (keyD y) fun k => Q (.bl (if neg then !(valD kvs k).isSome else (valD kvs k).isSome)) st2
def prD : D → Option (Key × D)
  | .tup [k, v] => (keyD k).map fun q => (q, v)
  | .tuk [k, v] => (keyD k).map fun q => (q, v)
  | _ => none
def prsD : List D → Option (List (Key × D))
  | [] => some []
  | d :: ds => match prD d with | none => none | some p => (prsD ds).map (p :: ·)
def mergeD (kvs more : List (Key × D)) : List (Key × D) := more.foldl (fun acc kv => putD acc kv.1 kv.2) kvs
theorem RV.pair {d : D} {v : V} {kd : Key × D} (r : RV K M H d v) (e : prD d = some kd) : ∃ p w, v = .ref p ∧ SqT K H p [kV kd.1, w] ∧ RV K M H kd.2 w := by
  cases r with
  | tup nn h q rs =>
    unfold prD at e
    split at e
    · rename_i k w z
      cases z
      obtain ⟨kk, ek, rfl⟩ := Option.map_eq_some_iff.mp e
      cases rs with
      | cons r1 rs => cases rs with
        | cons r2 rs => cases rs; rw [r1.key ek] at h; exact ⟨_, _, rfl, .inl (.inr ⟨_, h⟩), r2⟩
    · rename_i z; cases z
    · cases e
  | tuk nn h rs =>
    unfold prD at e
    split at e
    · rename_i z; cases z
    · rename_i k w z
      cases z
      obtain ⟨kk, ek, rfl⟩ := Option.map_eq_some_iff.mp e
      cases rs with
      | cons r1 rs => cases rs with
        | cons r2 rs => cases rs; rw [r1.key ek] at h; exact ⟨_, _, rfl, .inl (.inl h), r2⟩
    · cases e
  | _ => cases e
def dDictP : DRs := fun ds st Q => on1 ds fun x => onO (seqL st x) fun xs => onO (prsD xs) fun kvs => Q (.ref st.length) (st ++ [.dK (mergeD [] kvs)])
where seqL (st : DSt) : D → Option (List D)
  | .lst ds => some ds
  | .ref n => match st[n]? with | some (.lst ds) => some ds | _ => none
  | _ => none
theorem seqL.rd {d : D} {v : V} {xs : List D} (s : RS T K M st H) (r : RV K M H d v) (e : dDictP.seqL st d = some xs) : ∃ a us, v = .ref a ∧ SqL K H a us ∧ RVs K M H xs us := by
  cases r with
  | lst nn h rs => cases e; exact ⟨_, _, rfl, .inl (.inl h), rs⟩
  | ref hm =>
    obtain ⟨o, e1, ro⟩ := s.atM hm
    unfold dDictP.seqL at e
    simp only [e1] at e
    cases o with
    | lst zs => cases e; obtain ⟨us, q, rs⟩ := ro; exact ⟨_, us, rfl, .inl (.inl q), rs⟩
    | dK _ => cases e
    | dT _ => cases e
    | lk _ _ _ => cases e
    | lkT _ _ _ => cases e
    | ins _ _ => cases e
  | _ => cases e
end
@[simp] theorem e_lockK {i : Nat} {F : DTS} {E : DEnds} {r : DEnv} {st : DSt} : sLockK i F E r st = onOO r[i]? fun x => onDk st x fun n kvs => ∀ ob ys, F (lkE n (.lk ob ys kvs) (.dK kvs) E) r (st.set n (.lk ob ys kvs)) := rfl
@[simp] theorem e_dlockK {i : Nat} {f : DTE} {Q : DK} {r : DEnv} {st : DSt} : dLockK i f r st Q = onOO r[i]? fun x => onDk st x fun n kvs => ∀ ob ys, f r (st.set n (.lk ob ys kvs)) fun d st1 => st1[n]? = some (.lk ob ys kvs) ∧ Q d (st1.set n (.dK kvs)) := rfl
@[simp] theorem e_wItemsK {f : DTE} {r : DEnv} {st : DSt} {R : DIt → DSt → Prop} : wItemsK f r st R = f r st fun x st1 => onLk st1 x fun n ob ys kvs => R ⟨itemsK kvs, some (n, .lk ob ys kvs)⟩ st1 := rfl
@[simp] theorem e_wKeysK {f : DTE} {r : DEnv} {st : DSt} {R : DIt → DSt → Prop} : wKeysK f r st R = f r st fun x st1 => onLk st1 x fun n ob ys kvs => R ⟨keysK kvs, some (n, .lk ob ys kvs)⟩ st1 := rfl
@[simp] theorem e_getR {x y : D} {st : DSt} {Q : DK} : dGetR x y st Q = onDr st x fun kvs => onO (keyD y) fun k => onO (valD kvs k) fun d => Q d st := rfl
@[simp] theorem e_inR {fa fb : DTE} {r : DEnv} {st : DSt} {Q : DK} : dInR false fa fb r st Q = fa r st fun y st1 => fb r st1 fun x st2 => onDr st2 x fun kvs => onO (keyD y) fun k => Q (.bl (valD kvs k).isSome) st2 := rfl
@[simp] theorem e_ninR {fa fb : DTE} {r : DEnv} {st : DSt} {Q : DK} : dInR true fa fb r st Q = fa r st fun y st1 => fb r st1 fun x st2 => onDr st2 x fun kvs => onO (keyD y) fun k => Q (.bl (!(valD kvs k).isSome)) st2 := rfl
@[simp] theorem e_dictP {x : D} {st : DSt} {Q : DK} : dDictP [x] st Q = onO (dDictP.seqL st x) fun xs => onO (prsD xs) fun kvs => Q (.ref st.length) (st ++ [.dK (mergeD [] kvs)]) := rfl
end DL
namespace DL
open PySem PySem.Spec PyProof.Rows L2 LamX PySem.W SL
def lexL : List Int → List Int → Bool
  | [], [] => false
  | [], _ :: _ => true
  | _ :: _, [] => false
  | p :: r, q :: s => if p = q then lexL r s else decide (p < q)
section
variable {prog : Program} {w : World} {A : Around} {E : Value → Shared → Prop} {s : Shared}
end
def numsD : D → Option (List Int)
  | .tup ds => intsD ds
  | .tuk ds => intsD ds
  | _ => none
def numOf (H : Hp) (v : V) : List Int := match v with
  | .ref a => match H a with
    | some (.tup xs) => xs.map fun x => match x with | .int i => i | _ => 0
    | some (.frz _ (.tup xs)) => xs.map fun x => match x with | .int i => i | _ => 0
    | _ => []
  | _ => []
def datOf (H : Hp) (v : V) : D := match v with
  | .ref a => match H a with
    | some (.tup xs) => .tuk (xs.map fun x => match x with | .int i => .int i | _ => .non)
    | some (.frz _ (.tup xs)) => .tup (xs.map fun x => match x with | .int i => .int i | _ => .non)
    | _ => .non
  | _ => .non
theorem back_i (ns : List Int) : (ns.map V.int).map (fun x => match x with | .int i => i | _ => 0) = ns := by
  rw [List.map_map]
  exact (List.map_congr_left fun i _ => rfl).trans (List.map_id ns)
theorem back_d (ns : List Int) : (ns.map V.int).map (fun x => match x with | .int i => D.int i | _ => .non) = ns.map D.int := by
  rw [List.map_map]
  exact List.map_congr_left fun i _ => rfl
theorem RV.nums {K : Frag} {M : Pl} {H : Hp} {d : D} {v : V} {ns : List Int} (r : RV K M H d v) (e : numsD d = some ns) : ∃ t, v = V.ref t ∧ SqT K H t (ns.map V.int) ∧ numOf H v = ns ∧ datOf H v = d := by
  cases r with
  | tup n h q rs =>
    have e' := intsD_of e
    subst e'
    have z := rs.ints
    subst z
    exact ⟨_, rfl, .inl (.inr ⟨_, h⟩), by simp only [numOf, h]; exact back_i ns, by simp only [datOf, h]; rw [back_d]⟩
  | tuk n h rs =>
    have e' := intsD_of e
    subst e'
    have z := rs.ints
    subst z
    exact ⟨_, rfl, .inl (.inl h), by simp only [numOf, h]; exact back_i ns, by simp only [datOf, h]; rw [back_d]⟩
  | _ => cases e
def dSortTs (fin : DK → List D → DSt → Prop) : DRs := fun ds st Q => on1 ds fun x => onO (dDictP.seqL st x) fun xs => ∃ d, 1 ≤ d ∧ (∀ x ∈ xs, ∃ ns, numsD x = some ns ∧ ns.length = d) ∧ ∀ out : List D, out.Perm xs → out.Pairwise (fun x y => lexL ((numsD y).getD []) ((numsD x).getD []) = false) → fin Q out st
@[simp] theorem e_sortTs {fin : DK → List D → DSt → Prop} {x : D} {st : DSt} {Q : DK} : dSortTs fin [x] st Q = onO (dDictP.seqL st x) fun xs => ∃ d, 1 ≤ d ∧ (∀ x ∈ xs, ∃ ns, numsD x = some ns ∧ ns.length = d) ∧ ∀ out : List D, out.Perm xs → out.Pairwise (fun x y => lexL ((numsD y).getD []) ((numsD x).getD []) = false) → fin Q out st := rfl
end DL
namespace DL
open PySem PySem.Spec PyProof.Rows L2 LamX PySem.W SL
def dMaxTs : DRs := fun ds st Q => on1 ds fun x => onO (dDictP.seqL st x) fun xs => 0 < xs.length ∧ (∀ d ∈ xs, ∃ ns, numsD d = some ns) ∧ ∀ d ∈ xs, (∀ e ∈ xs, lexL ((numsD d).getD []) ((numsD e).getD []) = false) → Q d st
@[simp] theorem e_maxTs {x : D} {st : DSt} {Q : DK} : dMaxTs [x] st Q = onO (dDictP.seqL st x) fun xs => 0 < xs.length ∧ (∀ d ∈ xs, ∃ ns, numsD d = some ns) ∧ ∀ d ∈ xs, (∀ e ∈ xs, lexL ((numsD d).getD []) ((numsD e).getD []) = false) → Q d st := rfl
@[simp] theorem e_pop {x : D} {ds : List D} {st : DSt} {Q : DK} : mPop x ds st Q = (ds = [] ∧ onL st x fun n xs => onO xs[xs.length - 1]? fun d => Q d (st.set n (.lst xs.dropLast))) := rfl
end DL
namespace SL
open PySem PySem.Spec PyProof.Rows L2
end SL
namespace DL
open PySem PySem.Spec PyProof.Rows L2 LamX PySem.W SL
section
variable {T : List (Addr × Str)} {X : Cx} {a : Expr} {fa : DTE} {p pos : Pos}
def dLenSetL (f : DTE) : DTE := fun r st Q => f r st fun x st1 => onO (dDictP.seqL st1 x) fun xs => onO (intsD xs) fun ns => ns.length ≤ 4000 ∧ ∀ ks : List Int, ks.Nodup → (∀ k, k ∈ ks ↔ k ∈ ns) → Q (.int (ks.length : Nat)) st1
@[simp] theorem e_lenSetL {f : DTE} {r : DEnv} {st : DSt} {Q : DK} : dLenSetL f r st Q = f r st fun x st1 => onO (dDictP.seqL st1 x) fun xs => onO (intsD xs) fun ns => ns.length ≤ 4000 ∧ ∀ ks : List Int, ks.Nodup → (∀ k, k ∈ ks ↔ k ∈ ns) → Q (.int (ks.length : Nat)) st1 := rfl
end
end DL
namespace DL
open PySem PySem.Spec PyProof.Rows L2 LamX PySem.W SL
section
variable {T : List (Addr × Str)} {X : Cx} {elt tg iter tg1 iter1 : Expr} {ifs ifs1 : List Expr} {scope : Scope} {own : List (Str × Nat)} {vs1 : List Nat} {pos : Pos} {f f1 : DTI} {g g1 : DTG} {tt tt1 : DTT} {te : DTE}
end
end DL
namespace DL
open PySem PySem.Spec PyProof.Rows L2 LamX PySem.W SL
section
variable {T : List (Addr × Str)} {X : Cx} {pos : Pos} {vs : List Nat}
def gSbK (fo fi : DTE) : DTG := fun d r st Q => fo r st fun o st1 => fi r st1 fun i st2 => onDk st2 o fun n kvs => onO (keyD i) fun k => kvs.length < sizeLine ∧ Q r (st2.set n (.dK (putD kvs k d)))
@[simp] theorem e_gSbK {fo fi : DTE} {d : D} {r : DEnv} {st : DSt} {Q : DEnv → DSt → Prop} : gSbK fo fi d r st Q = fo r st fun o st1 => fi r st1 fun i st2 => onDk st2 o fun n kvs => onO (keyD i) fun k => kvs.length < sizeLine ∧ Q r (st2.set n (.dK (putD kvs k d))) := rfl
end
end DL
namespace DL
open PySem PySem.Spec PyProof.Rows L2 LamX PySem.W SL
def pdG (d : D) : PyData := (pdT d).getD .none
theorem pdTs_all : ∀ {ds : List D} {ps : List PyData}, pdTs ds = some ps → ps = ds.map pdG ∧ ∀ d ∈ ds, pdT d = some (pdG d)
  | [], ps, e => by
    simp only [pdTs, Option.some.injEq] at e
    subst e
    exact ⟨rfl, fun d h => by cases h⟩
  | d :: ds, ps, e => by
    unfold pdTs at e
    cases q : pdT d with
    | none => rw [q] at e; cases e
    | some y =>
      rw [q] at e
      simp only [Option.map_eq_some_iff] at e
      obtain ⟨qs, e, rfl⟩ := e
      obtain ⟨h1, h2⟩ := pdTs_all e
      have g : pdG d = y := by unfold pdG; rw [q]; rfl
      refine ⟨by rw [List.map_cons, g, h1], fun x hx => ?_⟩
      rcases List.mem_cons.mp hx with z | z
      · rw [z, g]; exact q
      · exact h2 x z
def srtD (xs : List D) : List D := xs.mergeSort (dataLe false pdG)
theorem RVs.zip {K : Frag} {M : Pl} {H : Hp} : ∀ {ds : List D} {vs : List V}, RVs K M H ds vs → (ds.zip vs).map (·.1) = ds ∧ (ds.zip vs).map (·.2) = vs ∧ ∀ t ∈ ds.zip vs, RV K M H t.1 t.2
  | _, _, .nil => ⟨rfl, rfl, fun t h => by cases h⟩
  | _, _, .cons (d := d) r rs => by
    obtain ⟨h1, h2, h3⟩ := RVs.zip rs
    refine ⟨by rw [List.zip_cons_cons, List.map_cons, h1], by rw [List.zip_cons_cons, List.map_cons, h2], fun t ht => ?_⟩
    rw [List.zip_cons_cons] at ht
    rcases List.mem_cons.mp ht with z | z
    · rw [z]; exact r
    · exact h3 t z
def dSortD (fin : DK → List D → DSt → Prop) : DRs := fun ds st Q => on1 ds fun x => onO (dDictP.seqL st x) fun xs => onO (pdTs xs) fun ps => (AllAlike ps ∧ Sortable ps ∧ ∀ p ∈ ps, p.depth ≤ 50) ∧ fin Q (srtD xs) st
@[simp] theorem e_sortD {fin : DK → List D → DSt → Prop} {x : D} {st : DSt} {Q : DK} : dSortD fin [x] st Q = onO (dDictP.seqL st x) fun xs => onO (pdTs xs) fun ps => (AllAlike ps ∧ Sortable ps ∧ ∀ p ∈ ps, p.depth ≤ 50) ∧ fin Q (srtD xs) st := rfl
end DL
namespace DL
open PySem PySem.Spec PyProof.Rows L2 LamX PySem.W SL
section
variable {T : List (Addr × Str)} {X : Cx} {K : Frag}
def onTup (d : D) (k : List D → Prop) : Prop := match d with | .tup ds => k ds | .tuk ds => k ds | _ => False
theorem onTup.of {d : D} {k : List D → Prop} (h : onTup d k) : ∃ ds, (d = .tup ds ∨ d = .tuk ds) ∧ k ds := by
  cases d with
  | tup ds => exact ⟨ds, .inl rfl, h⟩
  | tuk ds => exact ⟨ds, .inr rfl, h⟩
  | _ => exact h.elim
end
end DL
namespace DL
open PySem PySem.Spec PyProof.Rows L2 LamX PySem.W SL
section
variable {T : List (Addr × Str)} {X : Cx} {a b : Expr} {fa fb : DPE} {pos : Pos}
end
end DL
namespace DL
open PySem PySem.Spec PyProof.Rows L2 LamX PySem.W SL
def dListItems (fe : DTE) : DTE := fun r st Q => fe r st fun x st1 => onDk st1 x fun _ kvs => Q (.lst (itemsK kvs)) st1
@[simp] theorem e_listItems {fe : DTE} {r : DEnv} {st : DSt} {Q : DK} : dListItems fe r st Q = fe r st fun x st1 => onDk st1 x fun _ kvs => Q (.lst (itemsK kvs)) st1 := rfl
end DL
namespace PySem.W
open PySem PySem.Calls PyProof.Rows PyProof.V PySem.Spec
section
variable {prog : Program} {w : World} {A : Around} {E : Value → Shared → Prop} {s : Shared} {T : String} {r d : Addr} {n : Nat} {P : Nat → Value → Prop} {OK : Heap → Prop} {Q : Value → Shared → Prop}
end
end PySem.W
namespace L2
open PySem PySem.Spec PyProof.Rows
section
variable {X : Cx} {o : Expr} {p pos apos mpos : Pos} {td : TE}
end
end L2
namespace DL
open PySem PySem.Spec PyProof.Rows L2 LamX PySem.W SL
def dSortVals (fe : DTE) : DTE := fun r st Q => fe r st fun x st1 => onDk st1 x fun _ kvs => onO (intsD (kvs.map (·.2))) fun is => ∀ ns : List Int, ns.Perm is → ns.Pairwise (· ≤ ·) → Q (.lst (ns.map D.int)) st1
@[simp] theorem e_sortVals {fe : DTE} {r : DEnv} {st : DSt} {Q : DK} : dSortVals fe r st Q = fe r st fun x st1 => onDk st1 x fun _ kvs => onO (intsD (kvs.map (·.2))) fun is => ∀ ns : List Int, ns.Perm is → ns.Pairwise (· ≤ ·) → Q (.lst (ns.map D.int)) st1 := rfl
end DL
namespace DL
open PySem PySem.Spec PyProof.Rows L2 LamX PySem.W SL
section
variable {T : List (Addr × Str)} {K : Frag} {X : Cx}
end
end DL
namespace DL
open PySem PySem.Spec PyProof.Rows L2 LamX PySem.W SL
def kI (k : List Int) : List Key := k.map Sum.inl
theorem kI_V (k : List Int) : (kI k).map kV = k.map V.int := by unfold kI; rw [List.map_map]; rfl
theorem kI_inj {a b : List Int} (h : kI a = kI b) : a = b := List.map_inj_right (fun x y e => Sum.inl.inj e) |>.mp h
theorem hT_eq (P : Program) (w : World) (k : List Int) : (tupleKind (mixKind P w)).hash (kI k) = hT k := by
  show reduceHash _ = reduceHash _
  unfold kI
  rw [List.map_map]
  rfl
abbrev TX := List (List Int × Addr × Value)
abbrev TY := List (List Int × Addr × V)
def upX (xs : TX) : List (List Key × Addr × Value) := xs.map fun x => (kI x.1, x.2.1, x.2.2)
def TP (p : List Int × Addr × V) (q : List Int × Addr × Value) : Prop := p.1 = q.1 ∧ p.2.1 = q.2.1 ∧ RelV p.2.2 q.2.2
def keyR (H : Hp) (k : List Int) (b : Addr) : Prop := Rdt H b (k.map V.int)
def putX {α : Type} (xs : List (List Int × Addr × α)) (k : List Int) (b : Addr) (u : α) : List (List Int × Addr × α) :=
  if (xs.any fun x => decide (x.1 = k)) = true then xs.map (fun x => if x.1 = k then (x.1, x.2.1, u) else x) else xs ++ [(k, b, u)]
def pV {α : Type} (ys : List (List Int × Addr × α)) : List (List Int × α) := ys.map fun y => (y.1, y.2.2)
theorem pV_any {α : Type} (ys : List (List Int × Addr × α)) (k : List Int) : ((pV ys).any fun y => decide (y.1 = k)) = ys.any fun y => decide (y.1 = k) := by
  unfold pV; rw [List.any_map]; rfl
theorem pV_put {ys : TY} {k : List Int} {b : Addr} {v : V} : pV (putX ys k b v) = putK (pV ys) k v := by
  unfold putX putK
  rw [pV_any]
  split
  · unfold pV
    rw [List.map_map, List.map_map]
    refine List.map_congr_left fun y _ => ?_
    show _ = (if y.1 = k then (y.1, v) else (y.1, y.2.2))
    show (fun y : List Int × Addr × V => (y.1, y.2.2)) (if y.1 = k then (y.1, y.2.1, v) else y) = _
    split <;> rfl
  · unfold pV
    rw [List.map_append]
    rfl
theorem putX_mem {α : Type} {xs : List (List Int × Addr × α)} {k : List Int} {b : Addr} {u : α} {y : List Int × Addr × α} (h : y ∈ putX xs k b u) : (∃ x ∈ xs, y.1 = x.1 ∧ y.2.1 = x.2.1) ∨ y = (k, b, u) := by
  unfold putX at h
  split at h
  · obtain ⟨x, hx, rfl⟩ := List.mem_map.mp h
    refine .inl ⟨x, hx, ?_⟩
    split <;> exact ⟨rfl, rfl⟩
  · rcases List.mem_append.mp h with h | h
    · exact .inl ⟨y, h, rfl, rfl⟩
    · exact .inr (List.mem_singleton.mp h)
theorem TP.any {ys : TY} {xs : TX} (r : Paired TP ys xs) (k : List Int) : (ys.any fun y => decide (y.1 = k)) = xs.any fun x => decide (x.1 = k) := by
  induction r with
  | nil => rfl
  | cons h t ih => rw [List.any_cons, List.any_cons, ih, h.1]
theorem TP.put {ys : TY} {xs : TX} (r : Paired TP ys xs) (k : List Int) {b : Addr} {v : V} {u : Value} (rv : RelV v u) : Paired TP (putX ys k b v) (putX xs k b u) := by
  unfold putX
  rw [TP.any r]
  split
  · induction r with
    | nil => exact .nil
    | @cons p q ps qs h t ih =>
      rename_i c
      clear c
      rw [List.map_cons, List.map_cons]
      have tl : Paired TP (ps.map fun x => if x.1 = k then (x.1, x.2.1, v) else x) (qs.map fun x => if x.1 = k then (x.1, x.2.1, u) else x) := by
        clear ih h
        induction t with
        | nil => exact .nil
        | @cons p q ps qs h t ih =>
          rw [List.map_cons, List.map_cons]
          refine .cons ?_ ih
          obtain ⟨h1, h2, h3⟩ := h
          by_cases e : p.1 = k
          · rw [if_pos e, if_pos (h1.symm.trans e)]; exact ⟨h1, h2, rv⟩
          · rw [if_neg e, if_neg (fun z => e (h1.trans z))]; exact ⟨h1, h2, h3⟩
      refine .cons ?_ tl
      obtain ⟨h1, h2, h3⟩ := h
      by_cases e : p.1 = k
      · rw [if_pos e, if_pos (h1.symm.trans e)]; exact ⟨h1, h2, rv⟩
      · rw [if_neg e, if_neg (fun z => e (h1.trans z))]; exact ⟨h1, h2, h3⟩
  · exact Paired.snoc r ⟨rfl, rfl, rv⟩
section
variable {X : Cx} {pins : List (Addr × Obj)} {σ : L2.St} {H : Hp} {s : Shared} {a b : Addr} {A : Around} {E : Value → Shared → Prop}
theorem keyR.is (I : Inv X pins σ H s) {k : List Int} (r0 : keyR H k b) : (tupleKind (mixKind X.prog X.w)).is s.heap (kI k) b := by
  obtain ⟨_, its, r, o, h1, h2, n, h3⟩ := (show ObjOk X.prog X.w H s.heap b (.tup (k.map V.int)) from rd_of I.hok r0.rd)
  rw [← kI_V] at r
  exact ⟨o, its.toArray, n, h1, h2, h3, by simpa using items_are r⟩
theorem upX_ent {P : Program} {w : World} {xs : TX} : (upX xs).map (entryOfKey (tupleKind (mixKind P w))) = xs.map fun x => (⟨hT x.1, .ref x.2.1, x.2.2⟩ : DictEntry) := by
  unfold upX
  rw [List.map_map]
  refine List.map_congr_left fun x _ => ?_
  show (⟨(tupleKind (mixKind P w)).hash (kI x.1), _, _⟩ : DictEntry) = _
  rw [hT_eq]
theorem upX_nd {xs : TX} : ((upX xs).map (·.1)).Nodup ↔ (xs.map (·.1)).Nodup := by
  have e : (upX xs).map (·.1) = (xs.map (·.1)).map kI := by unfold upX; rw [List.map_map, List.map_map]; rfl
  rw [e]
  constructor
  · intro h; exact List.Pairwise.imp (fun h z => h (by rw [z])) (List.pairwise_map.mp h)
  · intro h; exact List.pairwise_map.mpr (List.Pairwise.imp (fun h z => h (kI_inj z)) h)
def keysR (H : Hp) (ys : TY) : Prop := ∀ y ∈ ys, keyR H y.1 y.2.1
theorem Td.at (I : Inv X pins σ H s) {ys : TY} (t : Td H a ys) (ks : keysR H ys) : ∃ xs : TX, Paired TP ys xs ∧ (a == sysModules) = false ∧ xs.length ≤ sizeLine ∧ (∃ o, H a = some (TdO a o)) ∧ s.heap.DictOfH (tupleKind (mixKind X.prog X.w)) a (upX xs) := by
  obtain ⟨o, es, ep, xs, h1, h2, h3, h4, h5, h6, h7, h8⟩ := t
  have z := (show ObjOk X.prog X.w H s.heap a (TdO a o) from I.hok a _ h1).1
  refine ⟨xs, h8, h2, h7, ⟨o, h1⟩, o, es, ep, z, h3, h4, by rw [h5, upX_ent], fun x hx => ?_, upX_nd.mpr h6⟩
  obtain ⟨x, hx0, rfl⟩ := List.mem_map.mp hx
  have all : ∀ {l : TY} {m : TX}, Paired TP l m → keysR H l → ∀ x ∈ m, keyR H x.1 x.2.1 := by
    intro l m q
    induction q with
    | nil => intro _ x hx; cases hx
    | @cons p q ps qs hq t ih =>
      intro hk x hx
      rcases List.mem_cons.mp hx with e | hx
      · subst e
        rw [← hq.1, ← hq.2.1]
        exact hk p List.mem_cons_self
      · exact ih (fun y hy => hk y (List.mem_cons_of_mem _ hy)) x hx
  exact (all h8 ks x hx0).is I
theorem Td.of {H' : Hp} {o' : Obj} {ys : TY} {xs : TX} {P : Program} {w : World} {h' : Heap} (hd : (a == sysModules) = false) (r : Paired TP ys xs) (l : xs.length ≤ sizeLine) (dd : h'.DictOfH (tupleKind (mixKind P w)) a (upX xs)) :
    ∃ o, h'.get? a = some o ∧ ∀ H' : Hp, H' a = some (TdO a o) → Td H' a ys := by
  obtain ⟨o, es, ep, h1, h2, h3, h4, h5, h6⟩ := dd
  exact ⟨o, h1, fun H' e => ⟨o, es, ep, xs, e, hd, h2, h3, by rw [h4, upX_ent], upX_nd.mp h6, l, r⟩⟩
end
end DL
namespace DL
open PySem PySem.Spec PyProof.Rows L2 LamX PySem.W SL
section
variable {X : Cx} {o i value e k v : Expr} {pos pos' p apos mpos : Pos} {td ty tv tk : TE}
end
def keyT : D → Option (List Int)
  | .tup ds => intsD ds
  | .tuk ds => intsD ds
  | _ => none
theorem keyT.rd {K : Frag} {M : Pl} {H : Hp} {d : D} {v : V} {k : List Int} (r : RV K M H d v) (e : keyT d = some k) : ∃ b, v = .ref b ∧ b ∉ M.m ∧ keyR H k b := by
  cases r with
  | tup n h z rs =>
    have q := intsD_of e
    subst q
    have := rs.ints
    subst this
    exact ⟨_, rfl, n, .inr ⟨_, h, z⟩⟩
  | tuk n h rs =>
    have q := intsD_of e
    subst q
    have := rs.ints
    subst this
    exact ⟨_, rfl, n, .inl h⟩
  | _ => cases e
def onDt (st : DSt) (x : D) (k : Nat → List (List Int × D) → Prop) : Prop := match x with
  | .ref n => match st[n]? with | some (.dT kvs) => k n kvs | _ => False
  | _ => False
theorem onDt.of {st : DSt} {d : D} {k : Nat → List (List Int × D) → Prop} (h : onDt st d k) : ∃ n kvs, d = .ref n ∧ st[n]? = some (.dT kvs) ∧ k n kvs := by
  cases d with
  | ref n =>
    unfold onDt at h
    simp only at h
    split at h
    · rename_i kvs e
      exact ⟨n, kvs, rfl, e, h⟩
    · exact h.elim
  | _ => exact h.elim
theorem pV_ks {ys : TY} : (pV ys).map (·.1) = ys.map (·.1) := by unfold pV; rw [List.map_map]; rfl
theorem pV_vs {ys : TY} : (pV ys).map (·.2) = ys.map (·.2.2) := by unfold pV; rw [List.map_map]; rfl
section
variable {T : List (Addr × Str)} {X : Cx} {K : Frag} {a b o i : Expr} {fa fb fo fi fv fk : DTE} {pos : Pos}
theorem onDt.rd {M : Pl} {H : Hp} {st : DSt} {n : Nat} {kvs : List (List Int × D)} {v : V} (s : RS T K M st H) (r : RV K M H (.ref n) v) (e : st[n]? = some (.dT kvs)) : ∃ a ys, v = .ref a ∧ M.at_ n = some a ∧ Td H a ys ∧ KVs K M H kvs (pV ys) ∧ TKs M H ys := by
  cases r with
  | ref hm =>
    obtain ⟨ys, e1, e2, e3, e4⟩ := s.obj n _ _ hm e
    exact ⟨_, ys, rfl, hm, e1, ⟨by rw [pV_ks]; exact e2, by rw [pV_vs]; exact e3⟩, e4⟩
theorem TKs.keys {M : Pl} {H : Hp} {ys : TY} (t : TKs M H ys) : keysR H ys := fun y hy => (t y hy).2
def dNewT : DTE := fun _ st Q => Q (.ref st.length) (st ++ [.dT []])
theorem TdO_ntb {a : Addr} {o : Obj} : ∀ ps, TdO a o ≠ .tbl ps := fun ps z => by unfold TdO at z; cases z
def dGetT : DR2 := fun x y st Q => onDt st x fun n kvs => onO (keyT y) fun k => onO (valD kvs k) fun d => Q d st
def dInT (neg : Bool) (fy fd : DTE) : DTE := fun r st Q => fy r st fun y st1 => fd r st1 fun x st2 => onDt st2 x fun n kvs => onO (keyT y) fun k => Q (.bl (if neg then !(valD kvs k).isSome else (valD kvs k).isSome)) st2
theorem TKs.put {M : Pl} {H : Hp} {ys : TY} {k : List Int} {b : Addr} {v : V} (t : TKs M H ys) (nb : b ∉ M.m) (kr : keyR H k b) : TKs M H (putX ys k b v) := fun y hy => by
  rcases putX_mem hy with ⟨x, hx, e1, e2⟩ | rfl
  · rw [e1, e2]; exact t x hx
  · exact ⟨nb, kr⟩
def sPutT (fd fy fv : DTE) : DTS := fun E r st => fv r st fun v st1 => fd r st1 fun x st2 => fy r st2 fun y st3 => onDt st3 x fun n kvs => onO (keyT y) fun k => kvs.length < sizeLine ∧ E.nx r (st3.set n (.dT (putD kvs k v)))
def dDispT (fk fv : DTE) : DTE := fun r st Q => fk r (st ++ [.dT []]) fun x st1 => fv r st1 fun v st2 => st2[st.length]? = some (.dT []) ∧ onO (keyT x) fun k => Q (.ref st.length) (st2.set st.length (.dT [(k, v)]))
@[simp] theorem e_newT {r : DEnv} {st : DSt} {Q : DK} : dNewT r st Q = Q (.ref st.length) (st ++ [.dT []]) := rfl
@[simp] theorem e_dispT {r : DEnv} {st : DSt} {Q : DK} : dDispT fk fv r st Q = fk r (st ++ [.dT []]) fun x st1 => fv r st1 fun v st2 => st2[st.length]? = some (.dT []) ∧ onO (keyT x) fun k => Q (.ref st.length) (st2.set st.length (.dT [(k, v)])) := rfl
@[simp] theorem e_getT {x y : D} {st : DSt} {Q : DK} : dGetT x y st Q = onDt st x fun n kvs => onO (keyT y) fun k => onO (valD kvs k) fun d => Q d st := rfl
@[simp] theorem e_inT {neg : Bool} {r : DEnv} {st : DSt} {Q : DK} : dInT neg fa fb r st Q = fa r st fun y st1 => fb r st1 fun x st2 => onDt st2 x fun n kvs => onO (keyT y) fun k => Q (.bl (if neg then !(valD kvs k).isSome else (valD kvs k).isSome)) st2 := rfl
@[simp] theorem e_putT {E : DEnds} {r : DEnv} {st : DSt} : sPutT fo fi fv E r st = fv r st fun v st1 => fo r st1 fun x st2 => fi r st2 fun y st3 => onDt st3 x fun n kvs => onO (keyT y) fun k => kvs.length < sizeLine ∧ E.nx r (st3.set n (.dT (putD kvs k v))) := rfl
end
end DL
namespace DL
open PySem PySem.Spec PyProof.Rows L2 LamX PySem.W SL
abbrev TZ := Addr × (List Int × Addr × V) × PyData
def encZ (z : TZ) : PyData := .tuple [.tuple (z.2.1.1.map PyData.int), z.2.2]
def encE (t : (List Int × Addr × V) × PyData) : PyData := .tuple [.tuple (t.1.1.map PyData.int), t.2]
def rSortT (K : PySem.W.Frag) : V → Hp → VK → Prop := fun x H Q => ∃ (a : Addr) (ys : TY) (ts : List ((List Int × Addr × V) × PyData)), x = .ref a ∧ Td H a ys ∧ keysR H ys ∧ ts.map (·.1) = ys ∧ (∀ t ∈ ts, Dp K H t.1.2.2 t.2) ∧
  AllAlike (ts.map encE) ∧ Sortable (ts.map encE) ∧ (∀ t ∈ ts, (encE t).depth ≤ 50) ∧
  ∀ (H' : Hp) (q : Addr) (zs : List TZ), (∀ b o, H b = some o → H' b = some o) → zs.map (·.2) = ts → H q = none → (∀ z ∈ zs, H z.1 = none ∧ H' z.1 = some (.tup [.ref z.2.1.2.1, z.2.1.2.2])) → H' q = some (.lst ((zs.mergeSort (dataLe false encZ)).map fun z => V.ref z.1)) → Q (.ref q) H'
section
variable {X : Cx} {o : Expr} {p pos apos mpos : Pos} {td : TE}
end
def encK (kv : List Int × D) : PyData := .tuple [.tuple (kv.1.map PyData.int), pdG kv.2]
def mkOk (mk : List Int → D) : Prop := ∀ k, mk k = .tup (k.map D.int) ∨ mk k = .tuk (k.map D.int)
def srtT (kvs : List (List Int × D)) : List (List Int × D) := kvs.mergeSort (dataLe false encK)
def dSortItT (fe : DTE) : DTE := fun r st Q => fe r st fun x st1 => onDt st1 x fun _ kvs => onO (pdTs (kvs.map (·.2))) fun _ => (AllAlike (kvs.map encK) ∧ Sortable (kvs.map encK) ∧ ∀ kv ∈ kvs, (encK kv).depth ≤ 50) ∧
  ∀ mk, mkOk mk → Q (.lst ((srtT kvs).map fun kv => .tuk [mk kv.1, kv.2])) st1
section
variable {T : List (Addr × Str)} {X : Cx} {e : Expr} {fe : DTE} {p apos cpos pos : Pos}
@[simp] theorem e_sortItT {r : DEnv} {st : DSt} {Q : DK} : dSortItT fe r st Q = fe r st fun x st1 => onDt st1 x fun _ kvs => onO (pdTs (kvs.map (·.2))) fun _ => (AllAlike (kvs.map encK) ∧ Sortable (kvs.map encK) ∧ ∀ kv ∈ kvs, (encK kv).depth ≤ 50) ∧
  ∀ mk, mkOk mk → Q (.lst ((srtT kvs).map fun kv => .tuk [mk kv.1, kv.2])) st1 := rfl
end
end DL
namespace DL
open PySem PySem.Spec PyProof.Rows L2 LamX PySem.W SL
structure Five (z TI TO i1 i2 tA lA : Nat) : Prop where
  a1 : TI ≠ z
  a2 : TO ≠ z
  a3 : TI ≠ TO
  a4 : TI ≠ i1
  a5 : TI ≠ i2
  a6 : z ≠ i1
  a7 : z ≠ i2
  a8 : TO ≠ i1
  a9 : TO ≠ i2
  b1 : i1 ≠ i2
  c1 : z ≠ tA
  c2 : z ≠ lA
  c3 : TO ≠ tA
  c4 : TO ≠ lA
  c5 : i1 ≠ lA
  c6 : i2 ≠ tA
  c7 : tA ≠ i1
  c8 : lA ≠ i2
theorem Five.sep {z TI TO i1 i2 tA lA : Addr} (F : Five z TI TO i1 i2 tA lA) : ZipSep2 z TI TO i1 i2 [i1, tA] [i2, lA] :=
  ⟨F.a1, F.a2, F.a3, F.a4, by simp, by simp [F.a6, F.c1], by simp [F.a8, F.c3], F.a5, by simp, by simp [F.a7, F.c2], by simp [F.a9, F.c4], by simp [F.b1, F.c5], by simp [F.b1.symm, F.c6]⟩
def StMx (z TI TO i1 i2 tA lA : Addr) (j : Nat) (h : Heap) : Prop :=
  IsZip h z TI TO .none ∧ IsTupOf2 h TI (.ref i1) (.ref i2) ∧ (∃ x y, IsTupOf2 h TO x y) ∧ h.IsTupleIter i1 tA j ∧ h.IsListIter i2 lA j
section
variable {prog : Program} {w : World} {K : PySem.W.Frag} {elts : List Expr} {kk : Nat} {tpos : Pos} {z TI TO i1 i2 tA lA : Addr}
theorem five_in {c : Addr} : c ∈ [z, TI, TO, i1, i2] ↔ c = z ∨ c = TI ∨ c = TO ∨ c = i1 ∨ c = i2 := by simp
theorem StMx.at {j : Nat} {h h' : Heap} (st : StMx z TI TO i1 i2 tA lA j h) (k : ∀ b ∈ [z, TI, TO, i1, i2], ∀ o, h.get? b = some o → h'.get? b = some o) : StMx z TI TO i1 i2 tA lA j h' := by
  obtain ⟨s1, s2, ⟨x, y, s3⟩, s4, s5⟩ := st
  exact ⟨k z (by simp) _ s1, k TI (by simp) _ s2, ⟨x, y, k TO (by simp) _ s3⟩, s4.at fun o e => k i1 (by simp) o e, s5.at fun o e => k i2 (by simp) o e⟩
theorem StMx.there {j : Nat} {h : Heap} (st : StMx z TI TO i1 i2 tA lA j h) : ∀ c ∈ [z, TI, TO, i1, i2], ∃ o, h.get? c = some o ∧ ∀ v, o.data ≠ .cell v := by
  obtain ⟨s1, s2, ⟨x, y, s3⟩, ⟨o4, e4, _, d4⟩, ⟨o5, e5, _, d5⟩⟩ := st
  intro c hc
  rcases five_in.mp hc with rfl | rfl | rfl | rfl | rfl
  · exact ⟨_, s1, fun v q => by cases q⟩
  · exact ⟨_, s2, fun v q => by cases q⟩
  · exact ⟨_, s3, fun v q => by cases q⟩
  · exact ⟨_, e4, fun v q => by rw [d4] at q; cases q⟩
  · exact ⟨_, e5, fun v q => by rw [d5] at q; cases q⟩
end
def itLs : D → Option (List D)
  | .lst ds => some ds
  | .scr ds => some ds
  | _ => none
def wZipM (fs : DTA) : DTI := fun r st R => fs r st fun ds st1 => on2 ds fun x y => onO (itT x) fun I => onO (itLs y) fun ws => R ⟨zipD I.items ws, none⟩ st1
theorem itLs.is {T : List (Addr × Str)} {K : Frag} {M : Pl} {H : Hp} {d : D} {v : V} {ws : List D} (r : RV K M H d v) (e : itLs d = some ws) : ∃ a, v = .ref a ∧ ∀ M' H' (st' : DSt), Later M H M' H' → RS T K M' st' H' → ∃ xs, RVs K M' H' ws xs ∧ SqL K H' a xs := by
  cases r with
  | lst n h rs => cases e; exact ⟨_, rfl, fun M' H' st' l s => ⟨_, rs.later l, .inl (Rd.later l n (.inl h))⟩⟩
  | scr n h rs => cases e; exact ⟨_, rfl, fun M' H' st' l s => ⟨_, rs.later l, .inl (Rd.later l n h)⟩⟩
  | lsk h rs => cases e; exact ⟨_, rfl, fun M' H' st' l s => ⟨_, rs.later l, h H'⟩⟩
  | _ => cases e
section
variable {T : List (Addr × Str)} {X : Cx} {e e2 : Expr} {fs : DTA} {p pos tpos : Pos} {elts : List Expr} {kk : Nat}
@[simp] theorem e_wZipM {r : DEnv} {st : DSt} {k : DIt → DSt → Prop} : wZipM fs r st k = fs r st fun ds st1 => on2 ds fun x y => onO (itT x) fun I => onO (itLs y) fun ws => k ⟨zipD I.items ws, none⟩ st1 := rfl
end
end DL
namespace DL
open PySem PySem.Spec PyProof.Rows L2 LamX PySem.W SL PySem.Calls PySem.SeqAt
section
variable {prog : Program} {w : World} {A : Around} {E : Value → Shared → Prop} {s : Shared}
end
def dSortDt (fin : DK → List D → DSt → Prop) : DRs := fun ds st Q => on1 ds fun x => onO (dDictP.seqL st x) fun xs => onO (pdTs xs) fun ps => (AllAlike ps ∧ (∀ d ∈ ps, ∃ ys, d = PyData.tuple ys) ∧ ∀ p ∈ ps, p.depth ≤ 50) ∧ fin Q (srtD xs) st
@[simp] theorem e_sortDt {fin : DK → List D → DSt → Prop} {x : D} {st : DSt} {Q : DK} : dSortDt fin [x] st Q = onO (dDictP.seqL st x) fun xs => onO (pdTs xs) fun ps => (AllAlike ps ∧ (∀ d ∈ ps, ∃ ys, d = PyData.tuple ys) ∧ ∀ p ∈ ps, p.depth ≤ 50) ∧ fin Q (srtD xs) st := rfl
end DL
namespace DL
open PySem PySem.Spec PyProof.Rows L2 LamX PySem.W SL
def encL (k : List Int) : PyData := .tuple (k.map PyData.int)
def srtL (ks : List (List Int)) : List (List Int) := ks.mergeSort (dataLe false encL)
def mergeX {α : Type} (acc ys : List (List Int × Addr × α)) : List (List Int × Addr × α) := ys.foldl (fun acc y => putX acc y.1 y.2.1 y.2.2) acc
def prT : D → Option (List Int × D)
  | .tup [k, v] => (keyT k).map fun k => (k, v)
  | .tuk [k, v] => (keyT k).map fun k => (k, v)
  | _ => none
def prsT : List D → Option (List (List Int × D))
  | [] => some []
  | d :: ds => match prT d with | some kv => (prsT ds).map (kv :: ·) | none => none
def mergeT (acc kvs : List (List Int × D)) : List (List Int × D) := kvs.foldl (fun acc kv => putD acc kv.1 kv.2) acc
section
variable {T : List (Addr × Str)} {K : Frag}
def dLenT : DRs := fun ds st Q => on1 ds fun x => onDt st x fun _ kvs => Q (.int ((kvs.length : Nat) : Int)) st
def dSortKT (fin : DK → List D → DSt → Prop) : DRs := fun ds st Q => on1 ds fun x => onDt st x fun _ kvs => ∀ mk, mkOk mk → fin Q ((srtL (kvs.map (·.1))).map mk) st
theorem KVs.mergeT {M : Pl} {H : Hp} : ∀ {ys : TY} {kvs : List (List Int × D)} {acc : List (List Int × D)} {ay : TY}, KVs K M H kvs (pV ys) → TKs M H ys → KVs K M H acc (pV ay) → TKs M H ay → KVs K M H (DL.mergeT acc kvs) (pV (mergeX ay ys)) ∧ TKs M H (mergeX ay ys)
  | [], kvs, acc, ay, h, _, g, t => by
    have : kvs = [] := by cases kvs with | nil => rfl | cons _ _ => cases h.ks
    subst this
    exact ⟨g, t⟩
  | y :: ys, kvs, acc, ay, h, hk, g, t => by
    cases kvs with
    | nil => cases h.ks
    | cons kd kvs =>
      obtain ⟨v, zs, e, rv, h'⟩ := h.un (k := kd.1) (d := kd.2)
      have e : (y.1, y.2.2) :: pV ys = (kd.1, v) :: zs := e
      injection e with e1 e2
      have e3 : y.1 = kd.1 := (Prod.mk.inj e1).1
      have e4 : y.2.2 = v := (Prod.mk.inj e1).2
      rw [← e2] at h'
      have ky := hk y List.mem_cons_self
      have gp : KVs K M H (putD acc kd.1 kd.2) (pV (putX ay y.1 y.2.1 y.2.2)) := by
        rw [pV_put, e3, e4]
        exact g.put rv
      exact KVs.mergeT (ys := ys) (kvs := kvs) (acc := putD acc kd.1 kd.2) (ay := putX ay y.1 y.2.1 y.2.2) h' (fun z hz => hk z (List.mem_cons_of_mem _ hz)) gp (t.put ky.1 ky.2)
def dDictT : DRs := fun ds st Q => on1 ds fun x => onO (dDictP.seqL st x) fun xs => onO (prsT xs) fun kvs => Q (.ref st.length) (st ++ [.dT (DL.mergeT [] kvs)])
end
@[simp] theorem e_lenT {x : D} {st : DSt} {Q : DK} : dLenT [x] st Q = onDt st x fun _ kvs => Q (.int ((kvs.length : Nat) : Int)) st := rfl
@[simp] theorem e_sortKT {fin : DK → List D → DSt → Prop} {x : D} {st : DSt} {Q : DK} : dSortKT fin [x] st Q = onDt st x fun _ kvs => ∀ mk, mkOk mk → fin Q ((srtL (kvs.map (·.1))).map mk) st := rfl
@[simp] theorem e_dictT {x : D} {st : DSt} {Q : DK} : dDictT [x] st Q = onO (dDictP.seqL st x) fun xs => onO (prsT xs) fun kvs => Q (.ref st.length) (st ++ [.dT (DL.mergeT [] kvs)]) := rfl
def tupS : D → Option (List D)
  | .tup xs => some xs
  | .tuk xs => some xs
  | _ => none
def dAddK : DR2 := fun x y st Q => match y with
  | .tup ys => onO (tupS x) fun xs => (ys ≠ [] ∧ xs.length + ys.length ≤ sizeLine) ∧ Q (.tup (xs ++ ys)) st
  | _ => False
section
variable {T : List (Addr × Str)} {K : Frag} {X : Cx} {a b : Expr} {fa fb : DTE} {pos : Pos}
theorem tupS.rd {M : Pl} {H : Hp} {d : D} {v : V} {xs : List D} (r : RV K M H d v) (e : tupS d = some xs) : ∃ p us, v = .ref p ∧ SqT K H p us ∧ RVs K M H xs us := by
  cases r with
  | tup nn h z rs => cases e; exact ⟨_, _, rfl, .inl (.inr ⟨_, h⟩), rs⟩
  | tuk nn h rs => cases e; exact ⟨_, _, rfl, .inl (.inl h), rs⟩
  | _ => cases e
end
@[simp] theorem e_addK {x : D} {ys : List D} {st : DSt} {Q : DK} : dAddK x (.tup ys) st Q = onO (tupS x) fun xs => (ys ≠ [] ∧ xs.length + ys.length ≤ sizeLine) ∧ Q (.tup (xs ++ ys)) st := rfl
end DL
namespace DL
open PySem PySem.Spec PyProof.Rows L2 LamX PySem.W SL
def mn3 (i j k : Int) : Int := if k < (if j < i then j else i) then k else (if j < i then j else i)
def dMin3 : DRs := fun ds st Q => match ds with
  | [.int i, .int j, .int k] => Q (.int (mn3 i j k)) st
  | _ => False
@[simp] theorem e_min3 {i j k : Int} {st : DSt} {Q : DK} : dMin3 [.int i, .int j, .int k] st Q = Q (.int (mn3 i j k)) st := rfl
end DL
namespace DL
open PySem PySem.Spec PyProof.Rows L2 LamX PySem.W SL
def dLRg2 (fin : DK → List D → DSt → Prop) (f g : DTE) : DTE := fun r st Q => f r st fun x st1 => g r st1 fun y st2 => onI x fun i => onI y fun j => RgOk i j ∧ fin Q (rgD i (j - i).toNat) st2
@[simp] theorem e_listRg2 {fin : DK → List D → DSt → Prop} {f g : DTE} {r : DEnv} {st : DSt} {Q : DK} : dLRg2 fin f g r st Q = f r st fun x st1 => g r st1 fun y st2 => onI x fun i => onI y fun j => RgOk i j ∧ fin Q (rgD i (j - i).toNat) st2 := rfl
end DL
namespace DL
open PySem PySem.Spec PyProof.Rows L2 LamX PySem.W SL
abbrev DTC := DEnv → DSt → (List D → (DSt → Prop) → DSt → Prop) → Prop
def compC (C : DSt → Prop) (g : DTG) (tt : DTT) (te : DTE) (r : DEnv) (Q : List D → DSt → Prop) : List D → List D → DSt → Prop
  | [], acc, st => C st ∧ Q acc st
  | d :: ds, acc, st => C st ∧ g d r st fun r2 st2 => tt r2 st2 fun b st3 => if b = true then te r2 st3 fun y st4 => compC C g tt te r Q ds (acc ++ [y]) st4 else compC C g tt te r Q ds acc st3
def dLcC (f : DTC) (g : DTG) (tt : DTT) (te : DTE) (vs : List Nat) (fin : (D → DSt → Prop) → List D → DSt → Prop) : DTE := fun r st Q => f r st fun its C st1 => its.length ≤ sizeLine ∧ compC C g tt te (wipeD r vs) (fin Q) its [] st1
section
variable {T : List (Addr × Str)} {X : Cx} {e e2 : Expr} {fs : DTA} {p pos tpos : Pos} {elts : List Expr} {kk : Nat}
def onL2 (st : DSt) (x y : D) (k : Nat → Nat → List D → List D → Prop) : Prop := match x, y with
  | .ref n, .ref m => match st[n]?, st[m]? with | some (.lst xs), some (.lst ys) => k n m xs ys | _, _ => False
  | _, _ => False
theorem onL2.of {st : DSt} {x y : D} {k : Nat → Nat → List D → List D → Prop} (h : onL2 st x y k) : ∃ n m xs ys, x = .ref n ∧ y = .ref m ∧ st[n]? = some (.lst xs) ∧ st[m]? = some (.lst ys) ∧ k n m xs ys := by
  unfold onL2 at h
  split at h
  · split at h
    · rename_i n m xs ys e1 e2
      exact ⟨_, _, xs, ys, rfl, rfl, e1, e2, h⟩
    · exact h.elim
  · exact h.elim
def wZipR (fs : DTA) : DTC := fun r st R => fs r st fun ds st1 => on2 ds fun x y => onL2 st1 x y fun n m xs ys => R (zipD xs ys) (fun st => st[n]? = some (.lst xs) ∧ st[m]? = some (.lst ys)) st1
variable {elt tg iter : Expr} {ifs : List Expr} {scope : Scope} {own : List (Str × Nat)} {f : DTC} {g : DTG} {tt : DTT} {te : DTE}
end
@[simp] theorem e_lcC {f : DTC} {g : DTG} {tt : DTT} {te : DTE} {vs : List Nat} {fin : (D → DSt → Prop) → List D → DSt → Prop} {r : DEnv} {st : DSt} {Q : DK} : dLcC f g tt te vs fin r st Q = f r st fun its C st1 => its.length ≤ sizeLine ∧ compC C g tt te (wipeD r vs) (fin Q) its [] st1 := rfl
@[simp] theorem e_wZipR {fs : DTA} {r : DEnv} {st : DSt} {R : List D → (DSt → Prop) → DSt → Prop} : wZipR fs r st R = fs r st fun ds st1 => on2 ds fun x y => onL2 st1 x y fun n m xs ys => R (zipD xs ys) (fun st => st[n]? = some (.lst xs) ∧ st[m]? = some (.lst ys)) st1 := rfl
end DL
namespace DL
open PySem PySem.Spec PyProof.Rows L2 LamX PySem.W SL
section
variable {T : List (Addr × Str)} {X : Cx} {K : Frag} {M : Pl} {H : Hp} {st : DSt} {n : Nat} {a : Addr} {ob : Obj} {ys : TY} {kvs : List (List Int × D)}
theorem RS.put {u : O} (s : RS T K M st H) (hm : M.at_ n = some a) (ro : RO K M H u a) : RS T K M (st.set n u) H := by
  have ex : ∃ o, H a = some o ∧ ∀ ps, o ≠ .tbl ps := by
    rcases ro.mut with ⟨_, q⟩ | ⟨_, q⟩ | ⟨_, q, _⟩ | ⟨_, _, q⟩ | ⟨_, _, _, q⟩
    · exact ⟨_, q, fun ps z => by cases z⟩
    · exact ⟨_, q, fun ps z => by cases z⟩
    · exact ⟨_, q, TdO_ntb⟩
    · exact ⟨_, q, fun ps z => by cases z⟩
    · exact ⟨_, q, fun ps z => by cases z⟩
  obtain ⟨o, e, nt⟩ := ex
  have z : L2.upd H a o = H := upd_self e
  have w := s.write (u := u) (o := o) hm (by rw [z]; exact ro) nt
  rw [z] at w
  exact w
def sLockT (i : Nat) (F : DTS) : DTS := fun E r st => onOO r[i]? fun x => onDt st x fun n kvs => ∀ ob ys, F (lkE n (.lkT ob ys kvs) (.dT kvs) E) r (st.set n (.lkT ob ys kvs))
def dLockT (i : Nat) (f : DTE) : DTE := fun r st Q => onOO r[i]? fun x => onDt st x fun n kvs => ∀ ob ys, f r (st.set n (.lkT ob ys kvs)) fun d st1 => st1[n]? = some (.lkT ob ys kvs) ∧ Q d (st1.set n (.dT kvs))
end
section
variable {P : Program} {w : World} {K : PySem.W.Frag} {tg : Expr} {a : Addr} {ob : Obj} {ys : TY}
end
def onLkT (st : DSt) (x : D) (k : Nat → Obj → TY → List (List Int × D) → Prop) : Prop := match x with
  | .ref n => match st[n]? with | some (.lkT ob ys kvs) => k n ob ys kvs | _ => False
  | _ => False
theorem onLkT.of {st : DSt} {d : D} {k : Nat → Obj → TY → List (List Int × D) → Prop} (h : onLkT st d k) : ∃ n ob ys kvs, d = .ref n ∧ st[n]? = some (.lkT ob ys kvs) ∧ k n ob ys kvs := by
  cases d with
  | ref n =>
    unfold onLkT at h
    simp only at h
    split at h
    · rename_i ob ys kvs e
      exact ⟨n, ob, ys, kvs, rfl, e, h⟩
    · exact h.elim
  | _ => exact h.elim
def wKeysT (f : DTE) : DTI := fun r st R => f r st fun x st1 => onLkT st1 x fun n ob ys kvs => ∀ mk, mkOk mk → R ⟨kvs.map (fun kv => mk kv.1), some (n, .lkT ob ys kvs)⟩ st1
def onDtR (st : DSt) (x : D) (k : List (List Int × D) → Prop) : Prop := match x with
  | .ref n => match st[n]? with | some (.dT kvs) => k kvs | some (.lkT _ _ kvs) => k kvs | _ => False
  | _ => False
section
variable {T : List (Addr × Str)} {X : Cx} {K : Frag} {M : Pl} {H : Hp} {st : DSt} {a b : Expr} {fa fb : DTE} {pos : Pos}
theorem onDtR.rd {d : D} {v : V} {k : List (List Int × D) → Prop} (s : RS T K M st H) (r : RV K M H d v) (h : onDtR st d k) : ∃ a kvs ys, v = .ref a ∧ Td H a ys ∧ KVs K M H kvs (pV ys) ∧ TKs M H ys ∧ k kvs := by
  cases d with
  | ref n =>
    unfold onDtR at h
    simp only at h
    cases r with
    | ref hm =>
      split at h
      · rename_i kvs e
        obtain ⟨ys, e1, e2, e3, e4⟩ := s.obj n _ _ hm e
        exact ⟨_, kvs, ys, rfl, e1, ⟨by rw [pV_ks]; exact e2, by rw [pV_vs]; exact e3⟩, e4, h⟩
      · rename_i ob ys kvs e
        obtain ⟨e1, e2, e3, e4⟩ := s.obj n _ _ hm e
        exact ⟨_, kvs, ys, rfl, e1.td, ⟨by rw [pV_ks]; exact e2, by rw [pV_vs]; exact e3⟩, e4, h⟩
      · exact h.elim
  | _ => exact h.elim
def dGetTR : DR2 := fun x y st Q => onDtR st x fun kvs => onO (keyT y) fun k => onO (valD kvs k) fun d => Q d st
def dInTR (neg : Bool) (fy fd : DTE) : DTE := fun r st Q => fy r st fun y st1 => fd r st1 fun x st2 => onDtR st2 x fun kvs => onO (keyT y) fun k => Q (.bl (if neg then !(valD kvs k).isSome else (valD kvs k).isSome)) st2
end
@[simp] theorem e_lockT {i : Nat} {F : DTS} {E : DEnds} {r : DEnv} {st : DSt} : sLockT i F E r st = onOO r[i]? fun x => onDt st x fun n kvs => ∀ ob ys, F (lkE n (.lkT ob ys kvs) (.dT kvs) E) r (st.set n (.lkT ob ys kvs)) := rfl
@[simp] theorem e_dlockT {i : Nat} {f : DTE} {Q : DK} {r : DEnv} {st : DSt} : dLockT i f r st Q = onOO r[i]? fun x => onDt st x fun n kvs => ∀ ob ys, f r (st.set n (.lkT ob ys kvs)) fun d st1 => st1[n]? = some (.lkT ob ys kvs) ∧ Q d (st1.set n (.dT kvs)) := rfl
@[simp] theorem e_wKeysT {f : DTE} {r : DEnv} {st : DSt} {R : DIt → DSt → Prop} : wKeysT f r st R = f r st fun x st1 => onLkT st1 x fun n ob ys kvs => ∀ mk, mkOk mk → R ⟨kvs.map (fun kv => mk kv.1), some (n, .lkT ob ys kvs)⟩ st1 := rfl
@[simp] theorem e_getTR {x y : D} {st : DSt} {Q : DK} : dGetTR x y st Q = onDtR st x fun kvs => onO (keyT y) fun k => onO (valD kvs k) fun d => Q d st := rfl
@[simp] theorem e_inTR {neg : Bool} {fy fd : DTE} {r : DEnv} {st : DSt} {Q : DK} : dInTR neg fy fd r st Q = fy r st fun y st1 => fd r st1 fun x st2 => onDtR st2 x fun kvs => onO (keyT y) fun k => Q (.bl (if neg then !(valD kvs k).isSome else (valD kvs k).isSome)) st2 := rfl
end DL
namespace SL
open PySem PySem.Spec PyProof.Rows L2 LamX PySem.W PySem.Calls
section
variable {prog : Program} {w : World} {A : Around} {E : Value → Shared → Prop} {s : Shared} {r d : Addr} {n : Nat} {P : Nat → Value → Prop} {OK : Heap → Prop} {T : String} {fn : String} {kz : List PyData} {Q : Value → Shared → Prop}
end
end SL
namespace DL
open PySem PySem.Spec PyProof.Rows L2 LamX PySem.W SL PySem.Calls
def dSortLenT (fin : DK → List D → DSt → Prop) (f : DTE) : DTE := fun r st Q => f r st fun x st1 => onDt st1 x fun _ kvs => ∀ mk, mkOk mk → ∀ ks : List (List Int), ks.Perm (kvs.map (·.1)) → fin Q (ks.map mk) st1
@[simp] theorem e_sortLenT {fin : DK → List D → DSt → Prop} {f : DTE} {r : DEnv} {st : DSt} {Q : DK} : dSortLenT fin f r st Q = f r st fun x st1 => onDt st1 x fun _ kvs => ∀ mk, mkOk mk → ∀ ks : List (List Int), ks.Perm (kvs.map (·.1)) → fin Q (ks.map mk) st1 := rfl
end DL
namespace DL
open PySem PySem.Spec PyProof.Rows L2 LamX PySem.W SL
section
variable {X : Cx} {pins : List (Addr × Obj)} {σ : L2.St} {H : Hp} {s : Shared} {a b : Addr} {E : Value → Shared → Prop}
end
def dcL (n : Nat) (I : DIt) (g : DTG) (fk fv : DTE) (r : DEnv) (Q : DK) : List D → DSt → Prop
  | [], st => okI I st (Q (.ref n) st)
  | d :: ds, st => okI I st (g d r st fun r2 st2 => fk r2 st2 fun y st3 => fv r2 st3 fun z st4 => onDt st4 (.ref n) fun _ kvs => onO (keyT y) fun k => kvs.length < sizeLine ∧ dcL n I g fk fv r Q ds (st4.set n (.dT (putD kvs k z))))
def dDcT (f : DTI) (g : DTG) (fk fv : DTE) (vs : List Nat) : DTE := fun r st Q => f r st fun I st1 => dcL st1.length I g fk fv (wipeD r vs) Q I.items (st1 ++ [.dT []])
@[simp] theorem e_dcT {f : DTI} {g : DTG} {fk fv : DTE} {vs : List Nat} {r : DEnv} {st : DSt} {Q : DK} : dDcT f g fk fv vs r st Q = f r st fun I st1 => dcL st1.length I g fk fv (wipeD r vs) Q I.items (st1 ++ [.dT []]) := rfl
end DL
namespace DL
open PySem PySem.Spec PyProof.Rows L2 LamX PySem.W SL
def dSlKV : D → Option Int → Option Int → DSt → DK → Prop := fun x lo hi st Q => onO (tupS x) fun xs => Q (.tup (cutD xs lo hi)) st ∧ Q (.tuk (cutD xs lo hi)) st
def dSlK (f : DTE) (lo hi : DTO) : DTE := fun r st Q => f r st fun x st1 => lo r st1 fun l st2 => hi r st2 fun u st3 => dSlKV x l u st3 Q
section
variable {T : List (Addr × Str)} {X : Cx} {e : Expr} {f : DTE} {pos : Pos}
end
@[simp] theorem e_slK {f : DTE} {lo hi : DTO} {r : DEnv} {st : DSt} {Q : DK} : dSlK f lo hi r st Q = f r st fun x st1 => lo r st1 fun l st2 => hi r st2 fun u st3 => dSlKV x l u st3 Q := rfl
@[simp] theorem e_slKV {x : D} {lo hi : Option Int} {st : DSt} {Q : DK} : dSlKV x lo hi st Q = onO (tupS x) fun xs => Q (.tup (cutD xs lo hi)) st ∧ Q (.tuk (cutD xs lo hi)) st := rfl
end DL
namespace SL
open PySem PySem.Spec PyProof.Rows L2
section
variable {X : Cx} {k n : Nat} {f C : Addr} {fd : FuncData} {ps ks : List Str} {sp : Sp} {x m : Str} {p pos apos : Pos} {e o : Expr} {es : List Expr} {kws : List Keyword} {ta : TE} {t tk : TA}
variable {g : List Value → List Value → List Value} {gV : List V → List V → List V}
end
end SL
namespace DL
open PySem PySem.Spec PyProof.Rows L2 LamX PySem.W SL
def onIns (C : Addr) (st : DSt) (d : D) (k : Nat → List (Str × D) → Prop) : Prop := match d with
  | .ref n => match st[n]? with | some (.ins C' fs) => C' = C ∧ k n fs | _ => False
  | _ => False
theorem onIns.of {C : Addr} {st : DSt} {d : D} {k : Nat → List (Str × D) → Prop} (h : onIns C st d k) : ∃ n fs, d = .ref n ∧ st[n]? = some (.ins C fs) ∧ k n fs := by
  cases d with
  | ref n =>
    unfold onIns at h
    simp only at h
    split at h
    · rename_i C' fs e; exact ⟨n, fs, rfl, by rw [e, h.1], h.2⟩
    · exact h.elim
  | _ => exact h.elim
def putFD (f : Str) (d : D) : List (Str × D) → List (Str × D)
  | [] => [(f, d)]
  | (a, x) :: r => if a = f then (a, d) :: r else (a, x) :: putFD f d r
section
variable {T : List (Addr × Str)} {X : Cx} {C : Addr} {e o : Expr} {f : Str} {fe fo fv : DTE} {pos pos' : Pos}
def dFld (C : Addr) (f : Str) (fe : DTE) : DTE := fun r st Q => fe r st fun x st1 => onIns C st1 x fun _ fs => onO (fs.lookup f) fun d => Q d st1
def sFldD (C : Addr) (f : Str) (fv fo : DTE) : DTS := fun E r st => fv r st fun y st1 => fo r st1 fun x st2 => onIns C st2 x fun n fs => fs.length ≤ 900 ∧ E.nx r (st2.set n (.ins C (putFD f y fs)))
def dMeth (C : Addr) (m : Str) (g : DRs) (fo : DTE) (fs : DTA) : DTE := fun r st Q => fo r st fun x st1 => onIns C st1 x fun _ af => af.lookup m = none ∧ fs r st1 fun ds st2 => g (x :: ds) st2 Q
variable {k : Nat} {fn : Addr} {fd : FuncData} {ps : List Str} {g : DRs} {m : Str} {es : List Expr} {fs : DTA} {apos : Pos} {e1 : Expr}
def dMk (C : Addr) (n m : Nat) (gD : List D → List D → List D) (g : DRs) (fs fk : DTA) : DTE := fun r st Q => fs r st fun ds st1 => fk r st1 fun es st2 => ds.length = n ∧ es.length = m ∧ g (gD (.ref st2.length :: ds) es) (st2 ++ [.ins C []]) fun v st3 => v = .non ∧ Q (.ref st2.length) st3
variable {ks : List Str} {x : Str} {p : Pos} {kws : List Keyword} {fk : DTA} {gD : List D → List D → List D} {gV : List V → List V → List V} {gg : List Value → List Value → List Value} {n : Nat}
end
section
variable {C : Addr} {f : Str} {fe fo fv : DTE} {r : DEnv} {st : DSt} {Q : DK} {E : DEnds} {g : DRs} {fs fk : DTA} {n m : Nat} {gD : List D → List D → List D}
@[simp] theorem e_fld : dFld C f fe r st Q = fe r st fun x st1 => onIns C st1 x fun _ fs => onO (fs.lookup f) fun d => Q d st1 := rfl
@[simp] theorem e_sFld : sFldD C f fv fo E r st = fv r st fun y st1 => fo r st1 fun x st2 => onIns C st2 x fun n fs => fs.length ≤ 900 ∧ E.nx r (st2.set n (.ins C (putFD f y fs))) := rfl
@[simp] theorem e_meth {m : Str} : dMeth C m g fo fs r st Q = fo r st fun x st1 => onIns C st1 x fun _ af => af.lookup m = none ∧ fs r st1 fun ds st2 => g (x :: ds) st2 Q := rfl
@[simp] theorem e_mk : dMk C n m gD g fs fk r st Q = fs r st fun ds st1 => fk r st1 fun es st2 => ds.length = n ∧ es.length = m ∧ g (gD (.ref st2.length :: ds) es) (st2 ++ [.ins C []]) fun v st3 => v = .non ∧ Q (.ref st2.length) st3 := rfl
end
end DL
namespace DL
open PySem PySem.Spec PyProof.Rows L2 LamX PySem.W SL
def onS (d : D) (k : Str → Prop) : Prop := match d with | .str z => k z | _ => False
theorem onS.of {d : D} {k : Str → Prop} (h : onS d k) : ∃ z, d = .str z ∧ k z := by
  cases d with
  | str z => exact ⟨z, rfl, h⟩
  | _ => exact h.elim
def strsD : List D → Option (List Str)
  | [] => some []
  | .str z :: r => (strsD r).map (z :: ·)
  | _ :: _ => none
theorem strsD_of : ∀ {ds : List D} {zs : List Str}, strsD ds = some zs → ds = zs.map D.str
  | [], _, h => by cases h; rfl
  | d :: r, zs, h => by
    cases d with
    | str z =>
      unfold strsD at h
      obtain ⟨ys, e, rfl⟩ := Option.map_eq_some_iff.mp h
      rw [strsD_of e]
      rfl
    | _ => cases h
theorem strsD_strs : ∀ zs : List Str, strsD (zs.map D.str) = some zs
  | [] => rfl
  | z :: r => by
    rw [List.map_cons]
    unfold strsD
    rw [strsD_strs r]
    rfl
theorem RVs.strs {K : Frag} {M : Pl} {H : Hp} : ∀ {zs : List Str} {vs : List V}, RVs K M H (zs.map D.str) vs → vs = zs.map V.str
  | [], _, .nil => rfl
  | z :: r, _, .cons h t => by
    cases h
    rw [RVs.strs t]
    rfl
theorem RVs.of_strs {K : Frag} {M : Pl} {H : Hp} : ∀ (zs : List Str), RVs K M H (zs.map D.str) (zs.map V.str)
  | [] => .nil
  | z :: r => .cons (.str z) (RVs.of_strs r)
section
variable {T : List (Addr × Str)} {X : Cx} {K : Frag} {a b e o : Expr} {es : List Expr} {fa fb fe fo : DTE} {pos : Pos}
theorem de_globS {x : Str} {i : Str} {u : Value} {pos : Pos} (hg : Gl X x) (hm : X.mg x = some u) (r : RelV (.str i) u) (hd : (x == ("__debug__" : Str)) = false := by decide) : DE T X (.Name x pos) (dC (.str i)) :=
  de_const (pe_glob hg hm r hd) fun _ _ => .str i
def dIxA : DR2 := fun x y st Q => match x with
  | .str z => onI y fun i => z.length ≤ sizeLine ∧ onO (atI z.cps.toList i) fun c => Q (.str ⟨#[c]⟩) st
  | d => dIx d y st Q
def dLenA : DRs := fun ds st Q => on1 ds fun x => match x with
  | .str z => z.length ≤ sizeLine ∧ Q (.int z.length) st
  | d => dLen [d] st Q
def sgnsD (z : Str) : List D := z.cps.toList.map fun c => D.str ⟨#[c]⟩
def wStr (f : DTE) : DTI := fun r st R => f r st fun x st1 => onS x fun z => R ⟨sgnsD z, none⟩ st1
def dJoin (fo fe : DTE) : DTE := fun r st Q => fo r st fun x st1 => onS x fun a => fe r st1 fun y st2 => onO (seqS st2 y) fun ds => onO (strsD ds) fun zs => (zs.map (·.length)).sum + zs.length * a.length ≤ 16777216 ∧ Q (.str (Txt.join a zs)) st2
theorem de_join {apos : Pos} (ho : DE T X o fo) (he : DE T X e fe) (hs : starEach [e] X.env = [(false, eval e X.env)] := by rfl) (hbase : attributeBase o "join" X.env (eval o X.env) = eval o X.env := by rfl) (hline : (apos.endLine == pos.line) = true := by rfl) :
    DE T X (.Call (.Attribute o "join" apos) [e] [] pos) (dJoin fo fe) :=
  PE.imp (pe_join ho he hs hbase hline) fun σ H Q ⟨M, r, st, Q', s, re, h, k⟩ => ⟨M, r, st, _, s, re, h, fun M1 H1 st1 x vx g1 s1 r1 q => by
    obtain ⟨a, rfl, q⟩ := onS.of q
    cases r1
    refine ⟨⟨a, rfl⟩, M1, r, st1, _, s1, re.grow g1, q, fun M2 H2 st2 y vy g2 s2 r2 q2 => ?_⟩
    obtain ⟨ds, e1, q2⟩ := onO.of q2
    obtain ⟨zs, e2, l, q3⟩ := onO.of q2
    have e2 := strsD_of e2
    subst e2
    obtain ⟨p, us, rfl, sq, rs⟩ := seqS.rd s2 r2 e1
    have z := rs.strs
    subst z
    exact ⟨a, p, zs, rfl, rfl, sq, l, ((k.grow g1).grow g2).here s2 (.str _) q3⟩⟩
def dSIdx (fo fe : DTE) : DTE := fun r st Q => fo r st fun x st1 => onS x fun a => fe r st1 fun y st2 => onS y fun b => ∃ i rest, Builtin.Str.occurrences a b 0 a.length 1 = i :: rest ∧ Q (.int (i : Nat)) st2
def dLtS : DR2 := fun x y st Q => onS x fun a => onS y fun b => Q (.bl (decide (a.cps.toList < b.cps.toList))) st
def dInS : DR2 := fun x y st Q => onS x fun a => onS y fun b => Q (.bl (!(Builtin.Str.occurrences b a 0 b.length 1).isEmpty)) st
def dAddS : DR2 := fun x y st Q => onS x fun a => onS y fun b => a.length + b.length ≤ sizeLine ∧ Q (.str (a ++ b)) st
theorem opD_addS : OpD T K (fun x y H Q => ∃ i j, x = .str i ∧ y = .str j ∧ i.length + j.length ≤ sizeLine ∧ Q (.str (i ++ j)) H) dAddS := by
  intro M H st x y vx vy Q' Q s rx ry h k
  obtain ⟨a, rfl, h1⟩ := onS.of h
  obtain ⟨b, rfl, l, q⟩ := onS.of h1
  cases rx
  cases ry
  exact ⟨a, b, rfl, rfl, l, k.here s (.str _) q⟩
theorem de_addS (ha : DE T X a fa) (hb : DE T X b fb) : DE T X (.BinOp a .Add b pos) (dOp dAddS fa fb) := de_op op_add_str opD_addS ha hb
end
section
variable {fa fb fe fo : DTE} {r : DEnv} {st : DSt} {Q : DK} {R : DIt → DSt → Prop} {z b : Str} {d y : D}
@[simp] theorem e_onS {k : Str → Prop} : onS (.str z) k = k z := rfl
@[simp] theorem e_ixAS : dIxA (.str z) y st Q = onI y fun i => z.length ≤ sizeLine ∧ onO (atI z.cps.toList i) fun c => Q (.str ⟨#[c]⟩) st := rfl
@[simp] theorem e_ixAT {ds : List D} : dIxA (.tup ds) y st Q = dIx (.tup ds) y st Q := rfl
@[simp] theorem e_ixAK {ds : List D} : dIxA (.tuk ds) y st Q = dIx (.tuk ds) y st Q := rfl
@[simp] theorem e_ixAL {ds : List D} : dIxA (.lst ds) y st Q = dIx (.lst ds) y st Q := rfl
@[simp] theorem e_ixAR {n : Nat} : dIxA (.ref n) y st Q = dIx (.ref n) y st Q := rfl
@[simp] theorem e_lenAS : dLenA [.str z] st Q = (z.length ≤ sizeLine ∧ Q (.int z.length) st) := rfl
@[simp] theorem e_lenAT {ds : List D} : dLenA [.tup ds] st Q = dLen [.tup ds] st Q := rfl
@[simp] theorem e_lenAK {ds : List D} : dLenA [.tuk ds] st Q = dLen [.tuk ds] st Q := rfl
@[simp] theorem e_lenAL {ds : List D} : dLenA [.lst ds] st Q = dLen [.lst ds] st Q := rfl
@[simp] theorem e_lenAR {n : Nat} : dLenA [.ref n] st Q = dLen [.ref n] st Q := rfl
@[simp] theorem e_wStr : wStr fe r st R = fe r st fun x st1 => onS x fun z => R ⟨sgnsD z, none⟩ st1 := rfl
@[simp] theorem e_join : dJoin fo fe r st Q = fo r st fun x st1 => onS x fun a => fe r st1 fun y st2 => onO (seqS st2 y) fun ds => onO (strsD ds) fun zs => (zs.map (·.length)).sum + zs.length * a.length ≤ 16777216 ∧ Q (.str (Txt.join a zs)) st2 := rfl
@[simp] theorem e_sidx : dSIdx fo fe r st Q = fo r st fun x st1 => onS x fun a => fe r st1 fun y st2 => onS y fun b => ∃ i rest, Builtin.Str.occurrences a b 0 a.length 1 = i :: rest ∧ Q (.int (i : Nat)) st2 := rfl
@[simp] theorem e_ltS : dLtS (.str z) (.str b) st Q = Q (.bl (decide (z.cps.toList < b.cps.toList))) st := rfl
@[simp] theorem e_inS : dInS (.str z) (.str b) st Q = Q (.bl (!(Builtin.Str.occurrences b z 0 b.length 1).isEmpty)) st := rfl
@[simp] theorem e_addSS : dAddS (.str z) (.str b) st Q = (z.length + b.length ≤ sizeLine ∧ Q (.str (z ++ b)) st) := rfl
end
section
variable {T : List (Addr × Str)} {K : Frag} {X : Cx}
def dSortKS (fin : DK → List D → DSt → Prop) : DRs := fun ds st Q => on1 ds fun x => onDk st x fun n kvs => ∃ ks : List Str, kvs.map (·.1) = ks.map Sum.inr ∧ ks.length < 64 ∧ ∀ out : List Str, out.Perm ks → sortedS out = true → fin Q (out.map D.str) st
def ixOfS (z : Str) : List Str → Option Nat
  | [] => none
  | x :: r => if x = z then some 0 else (ixOfS z r).map (· + 1)
def mIndexS : D → List D → DSt → DK → Prop := fun x ds st Q => on1 ds fun y => onS y fun z => onO (lstS st x) fun xs => onO (strsD xs) fun ns => onO (ixOfS z ns) fun j => Q (.int (j : Nat)) st
end
@[simp] theorem e_sortKS {fin : DK → List D → DSt → Prop} {x : D} {st : DSt} {Q : DK} : dSortKS fin [x] st Q = onDk st x fun n kvs => ∃ ks : List Str, kvs.map (·.1) = ks.map Sum.inr ∧ ks.length < 64 ∧ ∀ out : List Str, out.Perm ks → sortedS out = true → fin Q (out.map D.str) st := rfl
@[simp] theorem e_mIndexS {x y : D} {st : DSt} {Q : DK} : mIndexS x [y] st Q = onS y fun z => onO (lstS st x) fun xs => onO (strsD xs) fun ns => onO (ixOfS z ns) fun j => Q (.int (j : Nat)) st := rfl
end DL
namespace DL
open PySem PySem.Spec PyProof.Rows L2 LamX PySem.W SL
end DL
namespace SL
open PySem PySem.Spec PyProof.Rows L2 PySem.W
section
variable {X : Cx}
def lkT (l : List (Key × Str)) (k : Key) : Option Str := (l.find? fun p => decide (p.1 = k)).map (·.2)
def eqT (la lb : List (Key × Str)) : Bool := la.length == lb.length && la.all fun p => decide (lkT lb p.1 = some p.2)
end
section
variable {X : Cx} {k : Nat} {f C : Addr} {fd : FuncData} {ps : List Str} {sp : Sp}
end
end SL
namespace DL
open PySem PySem.Spec PyProof.Rows L2 LamX PySem.W SL
section
variable {T : List (Addr × Str)} {X : Cx} {K : Frag} {C : Addr} {a b o e : Expr} {fa fb fo fe : DTE} {pos : Pos}
def mapD (l : List (Key × Str)) : List (Key × D) := l.map fun p => (p.1, D.str p.2)
def dEqT (neg : Bool) : DR2 := fun x y st Q => onDk st x fun _ ka => onDk st y fun _ kb => ∃ la lb : List (Key × Str), ka = mapD la ∧ kb = mapD lb ∧ Q (.bl (if neg then !eqT la lb else eqT la lb)) st
def rsLenO (C : Addr) (g : DRs) : DRs := fun ds st Q => on1 ds fun x => onIns C st x fun _ _ => g [x] st fun v st1 => ∃ n : Int, v = .int n ∧ 0 ≤ n ∧ n < 2 ^ 63 ∧ Q (.int n) st1
variable {k : Nat} {fn : Addr} {fd : FuncData} {ps : List Str} {g : DRs}
end
section
variable {T : List (Addr × Str)} {X : Cx} {K : Frag} {o e : Expr} {apos cpos : Pos} {fo fe : DTE}
def dropD (kvs : List (Key × D)) (k : Key) : List (Key × D) := kvs.filter fun kv => decide (kv.1 ≠ k)
theorem KVs.drop {M : Pl} {H : Hp} : ∀ {kvs : List (Key × D)} {ys : List (Key × V)} {k : Key}, KVs K M H kvs ys → KVs K M H (dropD kvs k) (dropK ys k)
  | [], [], _, h => h
  | [], _ :: _, _, h => by have := h.ks; cases this
  | _ :: _, [], _, h => by have := h.ks; cases this
  | (j, d) :: kvs, (j2, v) :: ys, k, h => by
    have hk := h.ks
    have hv := h.vs
    rw [List.map_cons, List.map_cons] at hk hv
    obtain ⟨e1, e2⟩ := List.cons.inj hk
    have e1 : j = j2 := e1
    subst e1
    cases hv with
    | cons r1 r2 =>
      have ih := KVs.drop (k := k) (⟨e2, r2⟩ : KVs K M H kvs ys)
      unfold dropD dropK
      by_cases q : j = k
      · rw [List.filter_cons_of_neg (by simp [q]), List.filter_cons_of_neg (by simp [q])]
        exact ih
      · rw [List.filter_cons_of_pos (by simp [q]), List.filter_cons_of_pos (by simp [q])]
        refine ⟨?_, ?_⟩
        · rw [List.map_cons, List.map_cons]
          exact congrArg (j :: ·) ih.ks
        · rw [List.map_cons, List.map_cons]
          exact .cons r1 ih.vs
def dPopK (fo fe : DTE) : DTE := fun r st Q => fo r st fun x st1 => DkD st1 x ∧ fe r st1 fun y st2 => onDk st2 x fun n kvs => onO (keyD y) fun k => onO (valD kvs k) fun d => Q d (st2.set n (.dK (dropD kvs k)))
end
section
variable {fa fb fo fe : DTE} {r : DEnv} {st : DSt} {Q : DK} {x y : D} {C : Addr} {g : DRs} {neg : Bool}
@[simp] theorem e_popK : dPopK fo fe r st Q = fo r st fun x st1 => DkD st1 x ∧ fe r st1 fun y st2 => onDk st2 x fun n kvs => onO (keyD y) fun k => onO (valD kvs k) fun d => Q d (st2.set n (.dK (dropD kvs k))) := rfl
@[simp] theorem e_eqT : dEqT neg x y st Q = onDk st x fun _ ka => onDk st y fun _ kb => ∃ la lb : List (Key × Str), ka = mapD la ∧ kb = mapD lb ∧ Q (.bl (if neg then !eqT la lb else eqT la lb)) st := rfl
@[simp] theorem e_lenO : rsLenO C g [x] st Q = onIns C st x fun _ _ => g [x] st fun v st1 => ∃ n : Int, v = .int n ∧ 0 ≤ n ∧ n < 2 ^ 63 ∧ Q (.int n) st1 := rfl
end
end DL
namespace SL
open PySem PySem.Spec PyProof.Rows L2 PySem.W SS
def Cnt (l : List Str) (m : Nat) : Prop := ∃ ks : List Str, ks.Nodup ∧ (∀ y, y ∈ ks ↔ y ∈ l) ∧ ks.length = m
theorem Cnt.nil : Cnt [] 0 := ⟨[], .nil, fun y => .rfl, rfl⟩
theorem any_mem {l : List Str} {y : Str} : (l.any (· == y)) = decide (y ∈ l) := by
  rw [Bool.eq_iff_iff, List.any_eq_true, decide_eq_true_eq]
  exact ⟨fun ⟨x, hx, e⟩ => (beq_iff_eq.mp e) ▸ hx, fun h => ⟨y, h, beq_self_eq_true y⟩⟩
theorem Cnt.snoc {l : List Str} {m : Nat} {x : Str} (c : Cnt l m) : Cnt (l ++ [x]) (if l.any (· == x) then m else m + 1) := by
  obtain ⟨ks, nd, mm, rfl⟩ := c
  rw [any_mem]
  by_cases h : x ∈ l
  · rw [decide_eq_true h, if_pos rfl]
    refine ⟨ks, nd, fun y => ?_, rfl⟩
    rw [mm, List.mem_append, List.mem_singleton]
    exact ⟨.inl, fun z => z.elim id fun e => e ▸ h⟩
  · rw [decide_eq_false h, if_neg (by decide)]
    refine ⟨ks ++ [x], ?_, fun y => ?_, by rw [List.length_append]; rfl⟩
    · rw [List.nodup_append]
      refine ⟨nd, by simp, fun a ha b hb e => ?_⟩
      rw [List.mem_singleton] at hb
      rw [e, hb] at ha
      exact h ((mm x).mp ha)
    · rw [List.mem_append, List.mem_append, mm]
section
variable {prog : Program} {w : World} {A : Around} {R : Result → Shared → Prop} {I : Addr} {fp wr : List Addr} {G : Array GenState → Array GenState → Prop} {n : Nat} {P : Nat → Value → Prop} {St : Nat → Shared → Prop}
end
section
variable {prog : Program} {w : World} {A : Around} {E : Value → Shared → Prop} {s : Shared}
end
section
variable {X : Cx} {o e : Expr} {apos cpos : Pos} {td ty : TE}
end
end SL
namespace DL
open PySem PySem.Spec PyProof.Rows L2 LamX PySem.W SL
section
variable {T : List (Addr × Str)} {X : Cx} {K : Frag} {a o e : Expr} {fa fo fe : DTE} {p pos apos cpos : Pos}
def dLenSetS (f : DTE) : DTE := fun r st Q => f r st fun x st1 => onT x fun ds => onO (strsD ds) fun xs => xs.length ≤ 4000 ∧ ∀ m, SL.Cnt xs m → Q (.int (m : Nat)) st1
def dUpdK (fo fe : DTE) : DTE := fun r st Q => fo r st fun x st1 => DkD st1 x ∧ fe r st1 fun y st2 => onDk st2 x fun n kvs => onDk st2 y fun m more => n ≠ m ∧ kvs.length + more.length ≤ sizeLine ∧ Q .non (st2.set n (.dK (mergeD kvs more)))
def dDictC : DRs := fun ds st Q => on1 ds fun x => onDk st x fun n kvs => Q (.ref st.length) (st ++ [.dK kvs])
end
section
variable {f fo fe : DTE} {r : DEnv} {st : DSt} {Q : DK} {x : D}
@[simp] theorem e_lenSetS : dLenSetS f r st Q = f r st fun x st1 => onT x fun ds => onO (strsD ds) fun xs => xs.length ≤ 4000 ∧ ∀ m, SL.Cnt xs m → Q (.int (m : Nat)) st1 := rfl
@[simp] theorem e_updK : dUpdK fo fe r st Q = fo r st fun x st1 => DkD st1 x ∧ fe r st1 fun y st2 => onDk st2 x fun n kvs => onDk st2 y fun m more => n ≠ m ∧ kvs.length + more.length ≤ sizeLine ∧ Q .non (st2.set n (.dK (mergeD kvs more))) := rfl
@[simp] theorem e_dictC : dDictC [x] st Q = onDk st x fun n kvs => Q (.ref st.length) (st ++ [.dK kvs]) := rfl
end
end DL
namespace SL
open PySem PySem.Spec PyProof.Rows L2 PySem.W
section
variable {prog : Program} {w : World} {A : Around} {E : Value → Shared → Prop} {s : Shared} {K : Frag} {x C L f : Addr} {h₀ : Heap} {m : Str → Option Value} {ox : Obj} {od : Option Obj} {b tb : Value}
end
structure IsC (K : Frag) (C : Addr) : Prop where
  cl : Cls K C
  ha : findIn K (.ref C) "__class__" = some (some (.builtin "object.__class__"))
  hn : specialIn K (.builtin "object.__class__") "__get__" = some (some (.builtin "getset_descriptor.__get__"))
  htk : takesIn K (.builtin "object.__class__") = some true
  hm : mroIn K C (.type "object") = some true
  k1 : kitOne K (.ref C) (.ref C) = some true
  k2 : kitOne K (.type "dict") (.ref C) = some false
  k3 : kitOne K (.type "int") (.ref C) = some false
  k4 : kitOne K (.type "tuple") (.ref C) = some false
  ne : findIn K (.ref C) "__ne__" = some (some (.builtin "object.__ne__"))
  ob : subIn K (.ref C) (.type "object") = some true
  n2 : notFirst K C (.type "dict") = true
  n3 : notFirst K C (.type "int") = true
  n4 : notFirst K C (.type "tuple") = true
inductive TyB (K : Frag) (C : Addr) (H : Hp) : V → Value → Bool → Prop where
  | ins {a dx : Addr} {fs : List (Str × V)} (e : H a = some (.ins C dx fs)) : TyB K C H (.ref a) (.ref C) true
  | int (i : Int) : TyB K C H (.int i) (.type "int") false
  | dK {a : Addr} {kvs : List (Key × V)} (e : H a = some (.dK kvs)) : TyB K C H (.ref a) (.type "dict") false
  | tup {a : Addr} {o : Obj} {xs : List V} (e : H a = some (.frz o (.tup xs))) : TyB K C H (.ref a) (.type "tuple") false
theorem TyB.x {K : Frag} {C : Addr} {H : Hp} {v : V} {t : Value} {b : Bool} (ic : IsC K C) (h : TyB K C H v t b) : TyX K H v t ∧ kitOne K t (.ref C) = some b ∧ notFirst K C t = true := by
  cases h with
  | ins e => exact ⟨.base (.ins e ic.cl ic.ha ic.hn ic.htk ic.hm), ic.k1, by simp [notFirst]⟩
  | int i => exact ⟨.base (.int i), ic.k3, ic.n3⟩
  | dK e => exact ⟨.base (.dK e), ic.k2, ic.n2⟩
  | tup e => exact ⟨.fTuple e, ic.k4, ic.n4⟩
section
variable {X : Cx} {k : Nat} {f C : Addr} {fd : FuncData} {ps : List Str} {sp : Sp}
end
end SL
namespace DL
open PySem PySem.Spec PyProof.Rows L2 LamX PySem.W SL
section
variable {T : List (Addr × Str)} {X : Cx} {K : Frag} {C : Addr} {e : Expr} {fe : DTE}
def TyD (C : Addr) (st : DSt) : D → Prop
  | .ref n => match st[n]? with | some (.ins C' _) => C' = C | some (.dK _) => True | _ => False
  | .int _ => True
  | .tup _ => True
  | _ => False
def isTab (st : DSt) : D → Bool
  | .ref n => match st[n]? with | some (.ins _ _) => true | _ => false
  | _ => false
def dIsO (C : Addr) (fe : DTE) : DTE := fun r st Q => fe r st fun x st1 => TyD C st1 x ∧ Q (.bl (isTab st1 x)) st1
def dEqO (neg : Bool) (C : Addr) (g : DRs) : DR2 := fun x y st Q => onIns C st x fun _ _ => TyD C st y ∧ g [x, y] st fun v st1 => ∃ c, v = .bl c ∧ Q (.bl (if neg then !c else c)) st1
end
section
variable {fe : DTE} {r : DEnv} {st : DSt} {Q : DK} {x y : D} {C : Addr} {g : DRs} {neg : Bool}
@[simp] theorem e_isO : dIsO C fe r st Q = fe r st fun x st1 => TyD C st1 x ∧ Q (.bl (isTab st1 x)) st1 := rfl
@[simp] theorem e_eqO : dEqO neg C g x y st Q = onIns C st x fun _ _ => TyD C st y ∧ g [x, y] st fun v st1 => ∃ c, v = .bl c ∧ Q (.bl (if neg then !c else c)) st1 := rfl
end
end DL
namespace DL
open PySem PySem.Spec PyProof.Rows L2 LamX PySem.W SL
def dSlT (f : DTE) (lo hi : DTO) : DTE := fun r st Q => f r st fun x st1 => lo r st1 fun l st2 => hi r st2 fun u st3 => onS x fun z => z.length ≤ sizeLine ∧ Q (.str (L2.cutS z l u)) st3
section
variable {T : List (Addr × Str)} {X : Cx} {e : Expr} {f : DTE} {pos : Pos}
end
@[simp] theorem e_slTx {f : DTE} {lo hi : DTO} {r : DEnv} {st : DSt} {Q : DK} : dSlT f lo hi r st Q = f r st fun x st1 => lo r st1 fun l st2 => hi r st2 fun u st3 => onS x fun z => z.length ≤ sizeLine ∧ Q (.str (L2.cutS z l u)) st3 := rfl
end DL
namespace DL
open PySem PySem.Spec PyProof.Rows L2 LamX PySem.W SL
section
variable {T : List (Addr × Str)} {K : Frag} {X : Cx} {e o : Expr} {f fo fe : DTE} {pos : Pos}
def dStrI : DRs := fun ds st Q => on1 ds fun x => onI x fun i => i.natAbs.log2 < 1920 ∧ Q (.str (toString i)) st
theorem callD_strI : CallD T K (fun xs H Q => ∃ i, xs = [V.int i] ∧ i.natAbs.log2 < 1920 ∧ Q (.str (toString i)) H) dStrI := by
  intro M H st ds vs Q' Q s r h k
  obtain ⟨x, rfl, h⟩ := on1.of h
  obtain ⟨i, rfl, l, h⟩ := onI.of h
  obtain ⟨v, rfl, rv⟩ := r.one
  cases rv
  exact ⟨i, rfl, l, k.here s (.str _) h⟩
def dFmt (f : DTE) : DTE := fun r st Q => f r st fun x st1 => match x with
  | .str y => y.length ≤ sizeLine ∧ Q (.str y) st1
  | .int i => i.natAbs.log2 < 1920 ∧ Q (.str (toString i)) st1
  | _ => False
theorem de_fmt (he : DE T X e f) : DE T X (.FormattedValue e (-1) none pos) (dFmt f) :=
  PE.imp (pe_fmt he) fun σ H Q ⟨M, r, st, Q', s, re, h, k⟩ => ⟨M, r, st, _, s, re, h, fun M1 H1 st1 x vx g1 s1 r1 q => by
    cases x with
    | str y =>
      cases r1
      exact .inl ⟨y, rfl, q.1, (k.grow g1).here s1 (.str _) q.2⟩
    | int i =>
      cases r1
      exact .inr ⟨i, rfl, q.1, (k.grow g1).here s1 (.str _) q.2⟩
    | _ => exact q.elim⟩
inductive DJs (T : List (Addr × Str)) (X : Cx) : List Expr → List DTE → Prop where
  | nil : DJs T X [] []
  | cons {e : Expr} {t : DTE} {es : List Expr} {ts : List DTE} (h : DE T X e t) (r : DJs T X es ts) : DJs T X (e :: es) (t :: ts)
def dJs : List DTE → Str → DEnv → DSt → (Str → DSt → Prop) → Prop
  | [], acc, _, st, Q => Q acc st
  | t :: ts, acc, r, st, Q => t r st fun x st1 => onS x fun y => (acc ++ y).length ≤ sizeLine ∧ dJs ts (acc ++ y) r st1 Q
theorem DJs.pj {es : List Expr} {ts : List DTE} (h : DJs T X es ts) : PJ X es (ts.map (lift T X.K)) := by
  induction h with
  | nil => exact .nil
  | cons h r ih => exact .cons h ih
theorem dJs.go {σ : L2.St} : ∀ (ts : List DTE) (acc : Str) (M : Pl) (H : Hp) (r : DEnv) (st : DSt) (Q' : Str → DSt → Prop) (Q : Str → Hp → Prop), RS T K M st H → RE K M H r σ → dJs ts acc r st Q' →
    (∀ z M' H' st', Grow M H M' H' → RS T K M' st' H' → Q' z st' → Q z H') → tJs (ts.map (lift T K)) acc σ H Q
  | [], acc, M, H, r, st, Q', Q, s, re, h, k => k acc M H st (Grow.refl _ _) s h
  | t :: ts, acc, M, H, r, st, Q', Q, s, re, h, k => ⟨M, r, st, _, s, re, h, fun M1 H1 st1 x vx g1 s1 r1 q => by
    obtain ⟨y, rfl, l, q⟩ := onS.of q
    cases r1
    exact ⟨y, rfl, l, dJs.go ts (acc ++ y) M1 H1 r st1 Q' Q s1 (re.grow g1) q fun z M' H' st' g' => k z M' H' st' (g1.trans g')⟩⟩
def dFStr (ts : List DTE) : DTE := fun r st Q => dJs ts Str.empty r st fun z st1 => Q (.str z) st1
theorem de_fstr {v1 v2 : Expr} {rest : List Expr} {ts : List DTE} (h : DJs T X (v1 :: v2 :: rest) ts) : DE T X (.JoinedStr (v1 :: v2 :: rest) pos) (dFStr ts) :=
  PE.imp (pe_joined h.pj) fun σ H Q ⟨M, r, st, Q', s, re, h, k⟩ => dJs.go ts _ M H r st _ _ s re h fun z M' H' st' g' s' q => k M' H' st' _ _ g' s' (.str _) q
def dSplit (fin : DK → List D → DSt → Prop) (fo fe : DTE) : DTE := fun r st Q => fo r st fun x st1 => onS x fun a => fe r st1 fun y st2 => onS y fun b => (b.length == 0) = false ∧ a.length + 2 ≤ sizeLine ∧ fin Q ((Txt.split a b).map D.str) st2
theorem de_split {fin : DK → List D → DSt → Prop} (hf : fin = finT ∨ fin = finN) {apos : Pos} (ho : DE T X o fo) (he : DE T X e fe) (hs : starEach [e] X.env = [(false, eval e X.env)] := by rfl) (hbase : attributeBase o "split" X.env (eval o X.env) = eval o X.env := by rfl) (hline : (apos.endLine == pos.line) = true := by rfl) :
    DE T X (.Call (.Attribute o "split" apos) [e] [] pos) (dSplit fin fo fe) :=
  PE.imp (pe_split ho he hs hbase hline) fun σ H Q ⟨M, r, st, Q', s, re, h, k⟩ => ⟨M, r, st, _, s, re, h, fun M1 H1 st1 x vx g1 s1 r1 q => by
    obtain ⟨a, rfl, q⟩ := onS.of q
    cases r1
    refine ⟨⟨a, rfl⟩, M1, r, st1, _, s1, re.grow g1, q, fun M2 H2 st2 y vy g2 s2 r2 q2 => ?_⟩
    obtain ⟨b, rfl, l1, l2, q3⟩ := onS.of q2
    cases r2
    exact ⟨a, b, rfl, rfl, l1, l2, fun p nq => fin_new' hf ((k.grow g1).grow g2) s2 (RVs.of_strs _) nq q3⟩⟩
def sAugL (i : Nat) (f : DTE) : DTS := fun E r st => onOO r[i]? fun x => f r st fun y st1 => onL st1 x fun n xs => onL st1 y fun m zs => xs.length + zs.length ≤ sizeLine ∧ E.nx (r.set i (some (.ref n))) (st1.set n (.lst (xs ++ zs)))
theorem ds_augL {i : Nat} {x : Str} {pos' : Pos} (hN : X.N.Nodup) (hi : X.N[i]? = some x) (hx : Loc X.env.scope x) (he : DE T X e f) (hf : X.fn x = true ∨ X.env.scope.names.lookup x = some .local := by first | exact .inl rfl | exact .inr rfl | assumption) :
    DSt1 T X (.AugAssign (.Name x pos') .Add e pos) (sAugL i f) := PS.imp (ps_aug hN hi hx he iop_ext hf) fun E σ H ⟨M, r, st, E', s, re, h, k⟩ => by
  obtain ⟨d, e1, h⟩ := onOO.of h
  obtain ⟨v, e2, rv⟩ := re.at_ i d e1
  refine ⟨v, e2, M, r, st, _, s, re, h, fun M1 H1 st1 y vy g1 s1 r1 h1 => ?_⟩
  obtain ⟨n, xs, rfl, ex, h2⟩ := onL.of h1
  obtain ⟨m, zs, rfl, ez, l, h3⟩ := onL.of h2
  have rv1 := rv.grow g1
  obtain ⟨a, us, rfl, ma, ha, ru⟩ := onL.rd s1 rv1 ex
  obtain ⟨b, ws, rfl, mb, hb, rz⟩ := onL.rd s1 r1 ez
  refine ⟨a, b, us, ws, rfl, rfl, ha, hb, by rw [← ru.length, ← rz.length]; exact l, ?_⟩
  have gw : Grow M1 H1 M1 (upd H1 a (.lst (us ++ ws))) := Grow.write s1.nd ma
  exact k.nx M1 _ _ _ _ (g1.trans gw) (s1.write (u := .lst (xs ++ zs)) ma ⟨us ++ ws, upd_same, (ru.append rz).grow gw⟩) (((re.grow g1).grow gw).set i (rv1.grow gw)) h3
end
@[simp] theorem e_strI {i : Int} {st : DSt} {Q : DK} : dStrI [.int i] st Q = (i.natAbs.log2 < 1920 ∧ Q (.str (toString i)) st) := rfl
@[simp] theorem e_fmt {f : DTE} {r : DEnv} {st : DSt} {Q : DK} : dFmt f r st Q = f r st fun x st1 => match x with
  | .str y => y.length ≤ sizeLine ∧ Q (.str y) st1
  | .int i => i.natAbs.log2 < 1920 ∧ Q (.str (toString i)) st1
  | _ => False := rfl
@[simp] theorem e_js0 {acc : Str} {r : DEnv} {st : DSt} {Q : Str → DSt → Prop} : dJs [] acc r st Q = Q acc st := rfl
@[simp] theorem e_js1 {t : DTE} {ts : List DTE} {acc : Str} {r : DEnv} {st : DSt} {Q : Str → DSt → Prop} : dJs (t :: ts) acc r st Q = t r st fun x st1 => onS x fun y => (acc ++ y).length ≤ sizeLine ∧ dJs ts (acc ++ y) r st1 Q := rfl
@[simp] theorem e_fstr {ts : List DTE} {r : DEnv} {st : DSt} {Q : DK} : dFStr ts r st Q = dJs ts Str.empty r st fun z st1 => Q (.str z) st1 := rfl
@[simp] theorem e_split {fin : DK → List D → DSt → Prop} {fo fe : DTE} {r : DEnv} {st : DSt} {Q : DK} : dSplit fin fo fe r st Q = fo r st fun x st1 => onS x fun a => fe r st1 fun y st2 => onS y fun b => (b.length == 0) = false ∧ a.length + 2 ≤ sizeLine ∧ fin Q ((Txt.split a b).map D.str) st2 := rfl
@[simp] theorem e_augL {i : Nat} {f : DTE} {E : DEnds} {r : DEnv} {st : DSt} : sAugL i f E r st = onOO r[i]? fun x => f r st fun y st1 => onL st1 x fun n xs => onL st1 y fun m zs => xs.length + zs.length ≤ sizeLine ∧ E.nx (r.set i (some (.ref n))) (st1.set n (.lst (xs ++ zs))) := rfl
end DL
local macro_rules
  | `(tactic| exists 1) => `(tactic| try simp only [DL.e_var, DL.e_C, DL.e_op, DL.e_neg, DL.e_isN, DL.e_notN, DL.e_and, DL.e_or, DL.e_not, DL.e_test, DL.e_tAnd, DL.e_tOr, DL.e_tNot, DL.e_tYes, DL.e_if, DL.e_aNil, DL.e_aCons, DL.e_tup, DL.e_lst, DL.e_lstN, DL.e_len0, DL.e_len1, DL.e_len2, DL.e_len3, DL.e_len4, DL.e_len5, DL.e_cb, DL.e_on1, DL.e_on2, DL.e_onI, DL.e_onB, DL.e_onO, DL.e_onO0, DL.e_onOO, DL.e_I0, DL.e_I, DL.e_add, DL.e_addT, DL.e_addS, DL.e_addL, DL.e_addLR, DL.e_addRL, DL.e_addRR, DL.e_mul, DL.e_mulL, DL.e_mulT, DL.e_rev, DL.e_revT, DL.e_ix, DL.e_eqI, DL.e_eqS, DL.e_eqB, DL.e_neI, DL.e_neS, DL.e_neB, DL.e_ltI, DL.e_chain, DL.e_len, DL.e_abs, DL.e_2I, DL.e_tuple1, DL.e_tuple2, DL.e_tuple3, DL.e_listT, DL.e_listN, DL.e_allR, DL.e_seqT, DL.e_seqK, DL.e_seqL, DL.e_isi, DL.e_isB, DL.e_notB, DL.e_truth, DL.e_next, DL.e_drop, DL.e_ret, DL.e_retN, DL.e_ifS, DL.e_set, DL.e_asg, DL.e_par, DL.e_nm, DL.e_gsN, DL.e_gsC, DL.e_gTpK, DL.e_gTpL, DL.e_sum, DL.e_maxL, DL.e_minL, DL.e_maxDef, DL.e_int, DL.e_intB, DL.e_aug, DL.e_on3, DL.e_par3, DL.e_newK, DL.e_getK, DL.e_keyI, DL.e_keyS, DL.e_inK, DL.e_ninK, DL.e_putK, DL.e_lenK, DL.e_lstS, DL.e_seqX, DL.e_gTpT, DL.e_oN, DL.e_oS, DL.e_sl, DL.e_slT, DL.e_slL, DL.e_finT, DL.e_finN, DL.e_index, DL.e_idxT, DL.e_idxL, DL.e_mIx, DL.e_ixST, DL.e_ixSL, DL.e_mtL, DL.e_w, DL.e_w1, DL.e_w2, DL.e_wE, DL.e_wZ, DL.e_itK, DL.e_itT, DL.e_itL, DL.e_itT2, DL.e_itL2, DL.e_lc, DL.e_for, DL.e_wipe0, DL.e_wipe, DL.e_okI, DL.e_okR, DL.e_gSb, List.getElem?_cons_zero, List.getElem?_cons_succ, List.set_cons_zero, List.set_cons_succ, DL.e_getD, DL.e_get1, DL.e_lockK, DL.e_dlockK, DL.e_wItemsK, DL.e_wKeysK, DL.e_getR, DL.e_inR, DL.e_ninR, DL.e_dictP, DL.e_sortTs, DL.e_maxTs, DL.e_pop, DL.e_lenSetL, DL.e_gSbK, DL.e_newT, DL.e_dispT, DL.e_getT, DL.e_inT, DL.e_putT, DL.e_sortItT, DL.e_lenT, DL.e_sortKT, DL.e_dictT, DL.e_addK, DL.e_sortDt, DL.e_min3, DL.e_listRg2, DL.e_lcC, DL.e_wZipR, DL.e_lockT, DL.e_dlockT, DL.e_wKeysT, DL.e_getTR, DL.e_inTR, DL.e_sortLenT, DL.e_dcT, DL.e_slK, DL.e_slKV, DL.e_strI, DL.e_fmt, DL.e_js0, DL.e_js1, DL.e_fstr, DL.e_split, DL.e_augL, DL.e_slTx, DL.e_isO, DL.e_eqO, DL.e_lenSetS, DL.e_updK, DL.e_dictC, DL.e_popK, DL.e_eqT, DL.e_lenO, DL.e_fld, DL.e_sFld, DL.e_meth, DL.e_mk, DL.e_onS, DL.e_ixAS, DL.e_ixAT, DL.e_ixAK, DL.e_ixAL, DL.e_ixAR, DL.e_lenAS, DL.e_lenAT, DL.e_lenAK, DL.e_lenAL, DL.e_lenAR, DL.e_wStr, DL.e_join, DL.e_sidx, DL.e_ltS, DL.e_inS, DL.e_addSS, DL.e_sortKS, DL.e_mIndexS])
  | `(tactic| exists 1, $es,*) => `(tactic| try simp only [DL.e_var, DL.e_C, DL.e_op, DL.e_neg, DL.e_isN, DL.e_notN, DL.e_and, DL.e_or, DL.e_not, DL.e_test, DL.e_tAnd, DL.e_tOr, DL.e_tNot, DL.e_tYes, DL.e_if, DL.e_aNil, DL.e_aCons, DL.e_tup, DL.e_lst, DL.e_lstN, DL.e_len0, DL.e_len1, DL.e_len2, DL.e_len3, DL.e_len4, DL.e_len5, DL.e_cb, DL.e_on1, DL.e_on2, DL.e_onI, DL.e_onB, DL.e_onO, DL.e_onO0, DL.e_onOO, DL.e_I0, DL.e_I, DL.e_add, DL.e_addT, DL.e_addS, DL.e_addL, DL.e_addLR, DL.e_addRL, DL.e_addRR, DL.e_mul, DL.e_mulL, DL.e_mulT, DL.e_rev, DL.e_revT, DL.e_ix, DL.e_eqI, DL.e_eqS, DL.e_eqB, DL.e_neI, DL.e_neS, DL.e_neB, DL.e_ltI, DL.e_chain, DL.e_len, DL.e_abs, DL.e_2I, DL.e_tuple1, DL.e_tuple2, DL.e_tuple3, DL.e_listT, DL.e_listN, DL.e_allR, DL.e_seqT, DL.e_seqK, DL.e_seqL, DL.e_isi, DL.e_isB, DL.e_notB, DL.e_truth, DL.e_next, DL.e_drop, DL.e_ret, DL.e_retN, DL.e_ifS, DL.e_set, DL.e_asg, DL.e_par, DL.e_nm, DL.e_gsN, DL.e_gsC, DL.e_gTpK, DL.e_gTpL, DL.e_sum, DL.e_maxL, DL.e_minL, DL.e_maxDef, DL.e_int, DL.e_intB, DL.e_aug, DL.e_on3, DL.e_par3, DL.e_newK, DL.e_getK, DL.e_keyI, DL.e_keyS, DL.e_inK, DL.e_ninK, DL.e_putK, DL.e_lenK, DL.e_lstS, DL.e_seqX, DL.e_gTpT, DL.e_oN, DL.e_oS, DL.e_sl, DL.e_slT, DL.e_slL, DL.e_finT, DL.e_finN, DL.e_index, DL.e_idxT, DL.e_idxL, DL.e_mIx, DL.e_ixST, DL.e_ixSL, DL.e_mtL, DL.e_w, DL.e_w1, DL.e_w2, DL.e_wE, DL.e_wZ, DL.e_itK, DL.e_itT, DL.e_itL, DL.e_itT2, DL.e_itL2, DL.e_lc, DL.e_for, DL.e_wipe0, DL.e_wipe, DL.e_okI, DL.e_okR, DL.e_gSb, List.getElem?_cons_zero, List.getElem?_cons_succ, List.set_cons_zero, List.set_cons_succ, DL.e_getD, DL.e_get1, DL.e_lockK, DL.e_dlockK, DL.e_wItemsK, DL.e_wKeysK, DL.e_getR, DL.e_inR, DL.e_ninR, DL.e_dictP, DL.e_sortTs, DL.e_maxTs, DL.e_pop, DL.e_lenSetL, DL.e_gSbK, DL.e_newT, DL.e_dispT, DL.e_getT, DL.e_inT, DL.e_putT, DL.e_sortItT, DL.e_lenT, DL.e_sortKT, DL.e_dictT, DL.e_addK, DL.e_sortDt, DL.e_min3, DL.e_listRg2, DL.e_lcC, DL.e_wZipR, DL.e_lockT, DL.e_dlockT, DL.e_wKeysT, DL.e_getTR, DL.e_inTR, DL.e_sortLenT, DL.e_dcT, DL.e_slK, DL.e_slKV, DL.e_strI, DL.e_fmt, DL.e_js0, DL.e_js1, DL.e_fstr, DL.e_split, DL.e_augL, DL.e_slTx, DL.e_isO, DL.e_eqO, DL.e_lenSetS, DL.e_updK, DL.e_dictC, DL.e_popK, DL.e_eqT, DL.e_lenO, DL.e_fld, DL.e_sFld, DL.e_meth, DL.e_mk, DL.e_onS, DL.e_ixAS, DL.e_ixAT, DL.e_ixAK, DL.e_ixAL, DL.e_ixAR, DL.e_lenAS, DL.e_lenAT, DL.e_lenAK, DL.e_lenAL, DL.e_lenAR, DL.e_wStr, DL.e_join, DL.e_sidx, DL.e_ltS, DL.e_inS, DL.e_addSS, DL.e_sortKS, DL.e_mIndexS, $[$es:term],*])
local macro_rules
  | `(tactic| exists 2) => `(tactic| try simp only [DL.e_var, DL.e_C, DL.e_op, DL.e_neg, DL.e_isN, DL.e_notN, DL.e_and, DL.e_or, DL.e_not, DL.e_test, DL.e_tAnd, DL.e_tOr, DL.e_tNot, DL.e_tYes, DL.e_if, DL.e_aNil, DL.e_aCons, DL.e_tup, DL.e_lst, DL.e_lstN, DL.e_len0, DL.e_len1, DL.e_len2, DL.e_len3, DL.e_len4, DL.e_len5, DL.e_cb, DL.e_on1, DL.e_on2, DL.e_onI, DL.e_onB, DL.e_onO, DL.e_onO0, DL.e_onOO, DL.e_I0, DL.e_I, DL.e_add, DL.e_addT, DL.e_addS, DL.e_addL, DL.e_addLR, DL.e_addRL, DL.e_addRR, DL.e_mul, DL.e_mulL, DL.e_mulT, DL.e_rev, DL.e_revT, DL.e_ix, DL.e_eqI, DL.e_eqS, DL.e_eqB, DL.e_neI, DL.e_neS, DL.e_neB, DL.e_ltI, DL.e_chain, DL.e_len, DL.e_abs, DL.e_2I, DL.e_tuple1, DL.e_tuple2, DL.e_tuple3, DL.e_listT, DL.e_listN, DL.e_allR, DL.e_seqT, DL.e_seqK, DL.e_seqL, DL.e_isi, DL.e_isB, DL.e_notB, DL.e_truth, DL.e_next, DL.e_drop, DL.e_ret, DL.e_retN, DL.e_ifS, DL.e_set, DL.e_asg, DL.e_par, DL.e_nm, DL.e_gsN, DL.e_gsC, DL.e_gTpK, DL.e_gTpL, DL.e_sum, DL.e_maxL, DL.e_minL, DL.e_maxDef, DL.e_int, DL.e_intB, DL.e_aug, DL.e_on3, DL.e_par3, DL.e_newK, DL.e_getK, DL.e_keyI, DL.e_keyS, DL.e_inK, DL.e_ninK, DL.e_putK, DL.e_lenK, DL.e_lstS, DL.e_seqX, DL.e_gTpT, DL.e_oN, DL.e_oS, DL.e_sl, DL.e_slT, DL.e_slL, DL.e_finT, DL.e_finN, DL.e_index, DL.e_idxT, DL.e_idxL, DL.e_mIx, DL.e_ixST, DL.e_ixSL, DL.e_mtL, DL.e_w, DL.e_w1, DL.e_w2, DL.e_wE, DL.e_wZ, DL.e_itK, DL.e_itT, DL.e_itL, DL.e_itT2, DL.e_itL2, DL.e_lc, DL.e_for, DL.e_wipe0, DL.e_wipe, DL.e_okI, DL.e_okR, DL.e_gSb, List.getElem?_cons_zero, List.getElem?_cons_succ, List.set_cons_zero, List.set_cons_succ, DL.e_getD, DL.e_get1, DL.e_lockK, DL.e_dlockK, DL.e_wItemsK, DL.e_wKeysK, DL.e_getR, DL.e_inR, DL.e_ninR, DL.e_dictP, DL.e_sortTs, DL.e_maxTs, DL.e_pop, DL.e_lenSetL, DL.e_gSbK, DL.e_strI, DL.e_fmt, DL.e_js0, DL.e_js1, DL.e_fstr, DL.e_split, DL.e_augL, DL.e_slTx, DL.e_isO, DL.e_eqO, DL.e_lenSetS, DL.e_updK, DL.e_dictC, DL.e_popK, DL.e_eqT, DL.e_lenO, DL.e_fld, DL.e_sFld, DL.e_meth, DL.e_mk, DL.e_onS, DL.e_ixAS, DL.e_ixAT, DL.e_ixAK, DL.e_ixAL, DL.e_ixAR, DL.e_lenAS, DL.e_lenAT, DL.e_lenAK, DL.e_lenAL, DL.e_lenAR, DL.e_wStr, DL.e_join, DL.e_sidx, DL.e_ltS, DL.e_inS, DL.e_addSS, DL.e_sortKS, DL.e_mIndexS, List.length_map])
  | `(tactic| exists 2, $es,*) => `(tactic| try simp only [DL.e_var, DL.e_C, DL.e_op, DL.e_neg, DL.e_isN, DL.e_notN, DL.e_and, DL.e_or, DL.e_not, DL.e_test, DL.e_tAnd, DL.e_tOr, DL.e_tNot, DL.e_tYes, DL.e_if, DL.e_aNil, DL.e_aCons, DL.e_tup, DL.e_lst, DL.e_lstN, DL.e_len0, DL.e_len1, DL.e_len2, DL.e_len3, DL.e_len4, DL.e_len5, DL.e_cb, DL.e_on1, DL.e_on2, DL.e_onI, DL.e_onB, DL.e_onO, DL.e_onO0, DL.e_onOO, DL.e_I0, DL.e_I, DL.e_add, DL.e_addT, DL.e_addS, DL.e_addL, DL.e_addLR, DL.e_addRL, DL.e_addRR, DL.e_mul, DL.e_mulL, DL.e_mulT, DL.e_rev, DL.e_revT, DL.e_ix, DL.e_eqI, DL.e_eqS, DL.e_eqB, DL.e_neI, DL.e_neS, DL.e_neB, DL.e_ltI, DL.e_chain, DL.e_len, DL.e_abs, DL.e_2I, DL.e_tuple1, DL.e_tuple2, DL.e_tuple3, DL.e_listT, DL.e_listN, DL.e_allR, DL.e_seqT, DL.e_seqK, DL.e_seqL, DL.e_isi, DL.e_isB, DL.e_notB, DL.e_truth, DL.e_next, DL.e_drop, DL.e_ret, DL.e_retN, DL.e_ifS, DL.e_set, DL.e_asg, DL.e_par, DL.e_nm, DL.e_gsN, DL.e_gsC, DL.e_gTpK, DL.e_gTpL, DL.e_sum, DL.e_maxL, DL.e_minL, DL.e_maxDef, DL.e_int, DL.e_intB, DL.e_aug, DL.e_on3, DL.e_par3, DL.e_newK, DL.e_getK, DL.e_keyI, DL.e_keyS, DL.e_inK, DL.e_ninK, DL.e_putK, DL.e_lenK, DL.e_lstS, DL.e_seqX, DL.e_gTpT, DL.e_oN, DL.e_oS, DL.e_sl, DL.e_slT, DL.e_slL, DL.e_finT, DL.e_finN, DL.e_index, DL.e_idxT, DL.e_idxL, DL.e_mIx, DL.e_ixST, DL.e_ixSL, DL.e_mtL, DL.e_w, DL.e_w1, DL.e_w2, DL.e_wE, DL.e_wZ, DL.e_itK, DL.e_itT, DL.e_itL, DL.e_itT2, DL.e_itL2, DL.e_lc, DL.e_for, DL.e_wipe0, DL.e_wipe, DL.e_okI, DL.e_okR, DL.e_gSb, List.getElem?_cons_zero, List.getElem?_cons_succ, List.set_cons_zero, List.set_cons_succ, DL.e_getD, DL.e_get1, DL.e_lockK, DL.e_dlockK, DL.e_wItemsK, DL.e_wKeysK, DL.e_getR, DL.e_inR, DL.e_ninR, DL.e_dictP, DL.e_sortTs, DL.e_maxTs, DL.e_pop, DL.e_lenSetL, DL.e_gSbK, DL.e_strI, DL.e_fmt, DL.e_js0, DL.e_js1, DL.e_fstr, DL.e_split, DL.e_augL, DL.e_slTx, DL.e_isO, DL.e_eqO, DL.e_lenSetS, DL.e_updK, DL.e_dictC, DL.e_popK, DL.e_eqT, DL.e_lenO, DL.e_fld, DL.e_sFld, DL.e_meth, DL.e_mk, DL.e_onS, DL.e_ixAS, DL.e_ixAT, DL.e_ixAK, DL.e_ixAL, DL.e_ixAR, DL.e_lenAS, DL.e_lenAT, DL.e_lenAK, DL.e_lenAL, DL.e_lenAR, DL.e_wStr, DL.e_join, DL.e_sidx, DL.e_ltS, DL.e_inS, DL.e_addSS, DL.e_sortKS, DL.e_mIndexS, List.length_map, $[$es:term],*])
local macro_rules
  | `(tactic| exists 3) => `(tactic| try simp only [DL.e_var, DL.e_C, DL.e_op, DL.e_neg, DL.e_isN, DL.e_notN, DL.e_and, DL.e_or, DL.e_not, DL.e_test, DL.e_tAnd, DL.e_tOr, DL.e_tNot, DL.e_tYes, DL.e_if, DL.e_aNil, DL.e_aCons, DL.e_tup, DL.e_lst, DL.e_lstN, DL.e_len0, DL.e_len1, DL.e_len2, DL.e_len3, DL.e_len4, DL.e_len5, DL.e_cb, DL.e_on1, DL.e_on2, DL.e_onI, DL.e_onB, DL.e_onO, DL.e_onO0, DL.e_onOO, DL.e_I0, DL.e_I, DL.e_add, DL.e_addT, DL.e_addS, DL.e_addL, DL.e_addLR, DL.e_addRL, DL.e_addRR, DL.e_mul, DL.e_mulL, DL.e_mulT, DL.e_rev, DL.e_revT, DL.e_ix, DL.e_eqI, DL.e_eqS, DL.e_eqB, DL.e_neI, DL.e_neS, DL.e_neB, DL.e_ltI, DL.e_chain, DL.e_len, DL.e_abs, DL.e_2I, DL.e_tuple1, DL.e_tuple2, DL.e_tuple3, DL.e_listT, DL.e_listN, DL.e_allR, DL.e_seqT, DL.e_seqK, DL.e_seqL, DL.e_isi, DL.e_isB, DL.e_notB, DL.e_truth, DL.e_next, DL.e_drop, DL.e_ret, DL.e_retN, DL.e_ifS, DL.e_set, DL.e_asg, DL.e_par, DL.e_nm, DL.e_gsN, DL.e_gsC, DL.e_gTpK, DL.e_gTpL, DL.e_sum, DL.e_maxL, DL.e_minL, DL.e_maxDef, DL.e_int, DL.e_intB, DL.e_aug, DL.e_on3, DL.e_par3, DL.e_newK, DL.e_getK, DL.e_keyI, DL.e_keyS, DL.e_inK, DL.e_ninK, DL.e_putK, DL.e_lenK, DL.e_lstS, DL.e_seqX, DL.e_gTpT, DL.e_oN, DL.e_oS, DL.e_sl, DL.e_slT, DL.e_slL, DL.e_finT, DL.e_finN, DL.e_index, DL.e_idxT, DL.e_idxL, DL.e_mIx, DL.e_ixST, DL.e_ixSL, DL.e_mtL, DL.e_w, DL.e_w1, DL.e_w2, DL.e_wE, DL.e_wZ, DL.e_itK, DL.e_itT, DL.e_itL, DL.e_itT2, DL.e_itL2, DL.e_lc, DL.e_for, DL.e_wipe0, DL.e_wipe, DL.e_okI, DL.e_okR, DL.e_gSb, List.getElem?_cons_zero, List.getElem?_cons_succ, List.set_cons_zero, List.set_cons_succ, DL.e_getD, DL.e_get1, DL.e_lockK, DL.e_dlockK, DL.e_wItemsK, DL.e_wKeysK, DL.e_getR, DL.e_inR, DL.e_ninR, DL.e_dictP, DL.e_sortTs, DL.e_maxTs, DL.e_pop, DL.e_lenSetL, DL.e_gSbK, DL.e_strI, DL.e_fmt, DL.e_js0, DL.e_js1, DL.e_fstr, DL.e_split, DL.e_augL, DL.e_slTx, DL.e_isO, DL.e_eqO, DL.e_lenSetS, DL.e_updK, DL.e_dictC, DL.e_popK, DL.e_eqT, DL.e_lenO, DL.e_fld, DL.e_sFld, DL.e_meth, DL.e_mk, DL.e_onS, DL.e_ixAS, DL.e_ixAT, DL.e_ixAK, DL.e_ixAL, DL.e_ixAR, DL.e_lenAS, DL.e_lenAT, DL.e_lenAK, DL.e_lenAL, DL.e_lenAR, DL.e_wStr, DL.e_join, DL.e_sidx, DL.e_ltS, DL.e_inS, DL.e_addSS, DL.e_sortKS, DL.e_mIndexS])
  | `(tactic| exists 3, $es,*) => `(tactic| try simp only [DL.e_var, DL.e_C, DL.e_op, DL.e_neg, DL.e_isN, DL.e_notN, DL.e_and, DL.e_or, DL.e_not, DL.e_test, DL.e_tAnd, DL.e_tOr, DL.e_tNot, DL.e_tYes, DL.e_if, DL.e_aNil, DL.e_aCons, DL.e_tup, DL.e_lst, DL.e_lstN, DL.e_len0, DL.e_len1, DL.e_len2, DL.e_len3, DL.e_len4, DL.e_len5, DL.e_cb, DL.e_on1, DL.e_on2, DL.e_onI, DL.e_onB, DL.e_onO, DL.e_onO0, DL.e_onOO, DL.e_I0, DL.e_I, DL.e_add, DL.e_addT, DL.e_addS, DL.e_addL, DL.e_addLR, DL.e_addRL, DL.e_addRR, DL.e_mul, DL.e_mulL, DL.e_mulT, DL.e_rev, DL.e_revT, DL.e_ix, DL.e_eqI, DL.e_eqS, DL.e_eqB, DL.e_neI, DL.e_neS, DL.e_neB, DL.e_ltI, DL.e_chain, DL.e_len, DL.e_abs, DL.e_2I, DL.e_tuple1, DL.e_tuple2, DL.e_tuple3, DL.e_listT, DL.e_listN, DL.e_allR, DL.e_seqT, DL.e_seqK, DL.e_seqL, DL.e_isi, DL.e_isB, DL.e_notB, DL.e_truth, DL.e_next, DL.e_drop, DL.e_ret, DL.e_retN, DL.e_ifS, DL.e_set, DL.e_asg, DL.e_par, DL.e_nm, DL.e_gsN, DL.e_gsC, DL.e_gTpK, DL.e_gTpL, DL.e_sum, DL.e_maxL, DL.e_minL, DL.e_maxDef, DL.e_int, DL.e_intB, DL.e_aug, DL.e_on3, DL.e_par3, DL.e_newK, DL.e_getK, DL.e_keyI, DL.e_keyS, DL.e_inK, DL.e_ninK, DL.e_putK, DL.e_lenK, DL.e_lstS, DL.e_seqX, DL.e_gTpT, DL.e_oN, DL.e_oS, DL.e_sl, DL.e_slT, DL.e_slL, DL.e_finT, DL.e_finN, DL.e_index, DL.e_idxT, DL.e_idxL, DL.e_mIx, DL.e_ixST, DL.e_ixSL, DL.e_mtL, DL.e_w, DL.e_w1, DL.e_w2, DL.e_wE, DL.e_wZ, DL.e_itK, DL.e_itT, DL.e_itL, DL.e_itT2, DL.e_itL2, DL.e_lc, DL.e_for, DL.e_wipe0, DL.e_wipe, DL.e_okI, DL.e_okR, DL.e_gSb, List.getElem?_cons_zero, List.getElem?_cons_succ, List.set_cons_zero, List.set_cons_succ, DL.e_getD, DL.e_get1, DL.e_lockK, DL.e_dlockK, DL.e_wItemsK, DL.e_wKeysK, DL.e_getR, DL.e_inR, DL.e_ninR, DL.e_dictP, DL.e_sortTs, DL.e_maxTs, DL.e_pop, DL.e_lenSetL, DL.e_gSbK, DL.e_strI, DL.e_fmt, DL.e_js0, DL.e_js1, DL.e_fstr, DL.e_split, DL.e_augL, DL.e_slTx, DL.e_isO, DL.e_eqO, DL.e_lenSetS, DL.e_updK, DL.e_dictC, DL.e_popK, DL.e_eqT, DL.e_lenO, DL.e_fld, DL.e_sFld, DL.e_meth, DL.e_mk, DL.e_onS, DL.e_ixAS, DL.e_ixAT, DL.e_ixAK, DL.e_ixAL, DL.e_ixAR, DL.e_lenAS, DL.e_lenAT, DL.e_lenAK, DL.e_lenAL, DL.e_lenAR, DL.e_wStr, DL.e_join, DL.e_sidx, DL.e_ltS, DL.e_inS, DL.e_addSS, DL.e_sortKS, DL.e_mIndexS, $[$es:term],*])
namespace DL
open PySem PySem.Spec PyProof.Rows L2 LamX PySem.W SL
def F_show_setting (g_show_keys : DRs) : DTS := (sSeq (sSet 2 (dLstN (daCons (dFStr ((dC (.str "keys ")) :: (dFmt (dCB dLen (daCons (dVar 0) daNil))) :: (dC (.str " slots ")) :: (dFmt (dCB dLen (daCons (dVar 1) daNil))) :: [])) daNil))) (sSeq (sAugL 2 (dLcG (wSeq (dVar 0)) (gNm 3) dtYes (dJoin (dC (.str " ")) (dOp dAdd (dLst (daCons (dC (.str "probe")) daNil)) (dLcG (wSeq (dVar 3)) (gNm 5) dtYes (dCB dStrI (daCons (dVar 5) daNil)) [5] finT))) [3] finN)) (sSeq (sAugL 2 (dLcG (wSeq (dVar 1)) (gNm 4) dtYes (dJoin (dC (.str " ")) (dOp dAdd (dLst (daCons (dC (.str "beats")) daNil)) (dLcG (wSeq (dVar 4)) (gNm 6) dtYes (dCB g_show_keys (daCons (dVar 6) (daCons (dC (.str ",")) daNil))) [6] finT))) [4] finN)) (sRet (dJoin (dC (.str "
")) (dVar 2))))))
def F_show_keys : DTS := (sSeq (sIf (dTest (dOp dEq (dCB dLen (daCons (dVar 0) daNil)) (dC (.int 0)))) (sRet (dC (.str "-"))) sNext) (sRet (dJoin (dVar 1) (dLcG (wSeq (dVar 0)) (gNm 2) dtYes (dCB dStrI (daCons (dVar 2) daNil)) [2] finT))))
def F_read_setting (g_require_string : DRs) (g_sizes_in : DRs) (g_probe_order_at : DRs) (g_table_at : DRs) : DTS := (sSeq (sDrop (dCB g_require_string (daCons (dVar 0) daNil))) (sSeq (sSet 1 (dSplit finT (dVar 0) (dC (.str "
")))) (sSeq (sAsg (dCB g_sizes_in (daCons (dOp dIx (dVar 1) (dC (.int 0))) daNil)) (gTp 2 (gsCons (gNm 2) (gsCons (gNm 3) gsNil)))) (sSeq (sSet 4 (dCB dTuple (daCons (dLcG (wRng2 (daCons (dC (.int 1)) (daCons (dOp dAdd (dC (.int 1)) (dVar 2)) daNil))) (gNm 6) dtYes (dCB g_probe_order_at (daCons (dVar 1) (daCons (dVar 6) (daCons (dVar 3) daNil)))) [6] finT) daNil))) (sSeq (sSet 5 (dCB dTuple (daCons (dLcG (wRng2 (daCons (dOp dAdd (dC (.int 1)) (dVar 2)) (daCons (dOp dAdd (dOp dAdd (dC (.int 1)) (dVar 2)) (dVar 3)) daNil))) (gNm 6) dtYes (dCB g_table_at (daCons (dVar 1) (daCons (dVar 6) (daCons (dVar 2) daNil)))) [6] finT) daNil))) (sSeq (sIf (dTest (dOp dGt (dCB dLen (daCons (dVar 1) daNil)) (dOp dAdd (dOp dAdd (dC (.int 1)) (dVar 2)) (dVar 3)))) sNever sNext) (sRet (dTup (daCons (dVar 4) (daCons (dVar 5) daNil))))))))))
def F_require_string : DTS := (sIf (dtNot (dTest (dIsi "str" (dVar 0)))) sNever sNext)
def F_sizes_in (g_number_of : DRs) : DTS := (sSeq (sSet 1 (dSplit finT (dVar 0) (dC (.str " ")))) (sSeq (sIf (dtOr (dTest (dOp dNe (dCB dLen (daCons (dVar 1) daNil)) (dC (.int 4)))) (dtOr (dTest (dOp dNe (dOp dIx (dVar 1) (dC (.int 0))) (dC (.str "keys")))) (dTest (dOp dNe (dOp dIx (dVar 1) (dC (.int 2))) (dC (.str "slots")))))) sNever sNext) (sSeq (sSet 2 (dCB g_number_of (daCons (dOp dIx (dVar 1) (dC (.int 1))) (daCons (dC (.int 1)) (daCons (dC (.int (16))) daNil))))) (sSeq (sSet 3 (dCB g_number_of (daCons (dOp dIx (dVar 1) (dC (.int 3))) (daCons (dC (.int 1)) (daCons (dC (.int (16))) daNil))))) (sSeq (sIf (dtOr (dTest (dIsN (dVar 2))) (dTest (dIsN (dVar 3)))) sNever sNext) (sRet (dTup (daCons (dVar 2) (daCons (dVar 3) daNil)))))))))
def F_number_of : DTS := (sSeq (sFor (wRng2 (daCons (dVar 1) (daCons (dOp dAdd (dVar 2) (dC (.int 1))) daNil))) (gNm 3) (sIf (dTest (dOp dEq (dVar 0) (dCB dStrI (daCons (dVar 3) daNil)))) (sRet (dVar 3)) sNext)) (sRet (dC .non)))
def F_probe_order_at (g_is_probe_order : DRs) (g_number_of : DRs) (g_words_behind : DRs) : DTS := (sSeq (sSet 3 (dCB dTuple (daCons (dLcG (wSeq (dCB g_words_behind (daCons (dVar 0) (daCons (dVar 1) (daCons (dC (.str "probe")) daNil))))) (gNm 4) dtYes (dCB g_number_of (daCons (dVar 4) (daCons (dC (.int 0)) (daCons (dOp dSub (dVar 2) (dC (.int 1))) daNil)))) [4] finT) daNil))) (sSeq (sIf (dtNot (dTest (dCB g_is_probe_order (daCons (dVar 2) (daCons (dVar 3) daNil))))) sNever sNext) (sRet (dVar 3))))
def F_table_at (g_is_table : DRs) (g_words_behind : DRs) (g_beaten_in : DRs) : DTS := (sSeq (sSet 3 (dCB dTuple (daCons (dLcG (wSeq (dCB g_words_behind (daCons (dVar 0) (daCons (dVar 1) (daCons (dC (.str "beats")) daNil))))) (gNm 4) dtYes (dCB g_beaten_in (daCons (dVar 4) (daCons (dVar 2) daNil))) [4] finT) daNil))) (sSeq (sIf (dtNot (dTest (dCB g_is_table (daCons (dVar 2) (daCons (dVar 3) daNil))))) sNever sNext) (sRet (dVar 3))))
def F_words_behind : DTS := (sSeq (sIf (dTest (dOp dEq (dVar 1) (dCB dLen (daCons (dVar 0) daNil)))) sNever sNext) (sSeq (sSet 3 (dSplit finT (dOp dIx (dVar 0) (dVar 1)) (dC (.str " ")))) (sSeq (sIf (dTest (dOp dNe (dOp dIx (dVar 3) (dC (.int 0))) (dVar 2))) sNever sNext) (sRet (dSlG finT (dVar 3) (oSome (dC (.int 1))) oNone)))))
def F_beaten_in (g_number_of : DRs) : DTS := (sSeq (sIf (dTest (dOp dEq (dVar 0) (dC (.str "-")))) (sRet (dTup daNil)) sNext) (sRet (dCB dTuple (daCons (dLcG (wSeq (dSplit finT (dVar 0) (dC (.str ",")))) (gNm 2) dtYes (dCB g_number_of (daCons (dVar 2) (daCons (dC (.int 0)) (daCons (dOp dSub (dVar 1) (dC (.int 1))) daNil)))) [2] finT) daNil))))
def F__law_text : DTS := (sSeq (sSet 2 (dLstN (daCons (dOp dAddS (dOp dAddS (dOp dAddS (dC (.str "keys ")) (dCB dStrI (daCons (dCB dLen (daCons (dVar 0) daNil)) daNil))) (dC (.str " slots "))) (dCB dStrI (daCons (dCB dLen (daCons (dVar 1) daNil)) daNil))) daNil))) (sSeq (sDrop (dMtL mExtend (dVar 2) (daCons (dLcG (wSeq (dVar 0)) (gNm 5) dtYes (dJoin (dC (.str " ")) (dOp dAdd (dLst (daCons (dC (.str "probe")) daNil)) (dLcG (wSeq (dVar 5)) (gNm 7) dtYes (dCB dStrI (daCons (dVar 7) daNil)) [7] finT))) [5] finT) daNil))) (sSeq (sFor (wSeq (dVar 1)) (gNm 3) (sSeq (sSet 4 (dLcG (wSeq (dVar 3)) (gNm 6) dtYes (dIf (dTest (dOp dNe (dVar 6) (dTup daNil))) (dJoin (dC (.str ",")) (dLcG (wSeq (dVar 6)) (gNm 8) dtYes (dCB dStrI (daCons (dVar 8) daNil)) [8] finT)) (dC (.str "-"))) [6] finT)) (sDrop (dMtL mAppend (dVar 2) (daCons (dJoin (dC (.str " ")) (dOp dAdd (dLst (daCons (dC (.str "beats")) daNil)) (dVar 4))) daNil))))) (sRet (dJoin (dC (.str "
")) (dVar 2))))))
def F__law_right_v56 (g_are_probes : DRs) (g_is_rule : DRs) (g_show_setting : DRs) (g_read_setting : DRs) (g__law_take : DRs) (g__law_setting : DRs) (g__law_text : DRs) : DTS := (sSeq (sFor (wRng1 (daCons (dC (.int 4)) daNil)) (gNm 1) (sSeq (sPar 2 3 (daCons (dOp dAdd (dC (.int 1)) (dCB g__law_take (daCons (dVar 0) (daCons (dC (.int 16)) daNil)))) (daCons (dOp dAdd (dC (.int 1)) (dCB g__law_take (daCons (dVar 0) (daCons (dC (.int 16)) daNil)))) daNil))) (sSeq (sAsg (dCB g__law_setting (daCons (dVar 0) (daCons (dVar 2) (daCons (dVar 3) (daCons (dOp dEq (dCB g__law_take (daCons (dVar 0) (daCons (dC (.int 2)) daNil))) (dC (.int 0))) daNil))))) (gTp 2 (gsCons (gNm 4) (gsCons (gNm 5) gsNil)))) (sSeq (sPar 6 7 (daCons (dCB dRepr (daCons (dTup (daCons (dVar 4) (daCons (dVar 5) daNil))) daNil)) (daCons (dCB g__law_text (daCons (dVar 4) (daCons (dVar 5) daNil))) daNil))) (sSeq (sIf (dtOr (dTest (dOp dNe (dCB g_show_setting (daCons (dVar 4) (daCons (dVar 5) daNil))) (dVar 7))) (dTest (dOp dNe (dCB (fun ds st Q => ds.length = 2 ∧ g_show_setting (perm [1, 0] ds) st Q) (daCons (dVar 5) (daCons (dVar 4) daNil))) (dVar 7)))) (sRet (dC (.bl false))) sNext) (sSeq (sIf (dtOr (dTest (dOp dNe (dCB dRepr (daCons (dCB g_read_setting (daCons (dVar 7) daNil)) daNil)) (dVar 6))) (dTest (dOp dNe (dCB dRepr (daCons (dCB (fun ds st Q => ds.length = 1 ∧ g_read_setting (perm [0] ds) st Q) (daCons (dVar 7) daNil)) daNil)) (dVar 6)))) (sRet (dC (.bl false))) sNext) (sSeq (sIf (dtOr (dtNot (dTest (dCB g_are_probes (daCons (dOp dIx (dCB g_read_setting (daCons (dVar 7) daNil)) (dC (.int 0))) daNil)))) (dtNot (dTest (dCB g_is_rule (daCons (dOp dIx (dCB g_read_setting (daCons (dVar 7) daNil)) (dC (.int 1))) daNil))))) (sRet (dC (.bl false))) sNext) (sIf (dTest (dOp dNe (dCB dRepr (daCons (dTup (daCons (dVar 4) (daCons (dVar 5) daNil))) daNil)) (dVar 6))) (sRet (dC (.bl false))) sNext)))))))) (sRet (dC (.bl true))))
end DL
--ELX
--ELO
--ELP
--ELQ
--ELR
--ELS
--ELU
namespace DL
open PySem PySem.Spec PyProof.Rows L2 LamX PySem.W SL
theorem g3X {st l : DSt} (k : Nat) : (st ++ l)[st.length + k]? = l[k]? := by
  rw [List.getElem?_append_right (by omega)]
  congr 1
  omega
theorem s3X {st l : DSt} (k : Nat) (x : O) : (st ++ l).set (st.length + k) x = st ++ l.set k x := by
  rw [List.set_append_right _ _ (by omega)]
  congr 2
  omega
theorem lstD_ownX {S : DSt} {n : Nat} {ds : List D} (h : S[n]? = some (.lst ds)) : LstD S (.ref n) := by
  unfold LstD
  simp only [h]
theorem app_lkX {S : DSt} {n : Nat} {xs : List D} {d : D} {Q : DK} (h : S[n]? = some (.lst xs)) (l : xs.length < sizeLine) (q : Q .non (S.set n (.lst (xs ++ [d])))) : mAppend (.ref n) [d] S Q := by
  show onL S (.ref n) fun n xs => xs.length < sizeLine ∧ Q .non (S.set n (.lst (xs ++ [d])))
  unfold onL
  simp only [h]
  exact ⟨l, q⟩
theorem comp_noX {te : DTE} {r : DEnv} {Q : List D → DSt → Prop} {st : DSt} {I : DIt} {i : Nat} {α : Type} (es : I.src = none) (f h : α → D) :
    ∀ (items : List α) (acc : List D), (∀ a ∈ items, Ev te (r.set i (some (f a))) st (h a)) → Q (acc ++ items.map h) st → compL I (gNm i) dtYes te r Q (items.map f) acc st
  | [], acc, _, q => by
    have q' : Q acc st := by simpa using q
    show okI I st (Q acc st)
    unfold okI
    rw [es]
    exact q'
  | a :: as, acc, hh, q => by
    show okI I st (te (r.set i (some (f a))) st fun y st4 => compL I (gNm i) dtYes te r Q (as.map f) (acc ++ [y]) st4)
    unfold okI
    rw [es]
    refine hh a List.mem_cons_self _ ?_
    exact comp_noX es f h as _ (fun b hb => hh b (List.mem_cons_of_mem _ hb)) (by simpa using q)
end DL
--ELX
--ELO
--ELP
--ELQ
--ELR
--ELS
--ELU
namespace DL
open PySem PySem.Spec PyProof.Rows L2 LamX PySem.W SL
def dg (n : Nat) : Str := Str.ofString (toString ((n : Nat) : Int))
theorem dg_tl (n : Nat) : TL.tl (dg n) = TL.numL n := TL.tl_num n
theorem dg_inj {a b : Nat} (h : dg a = dg b) : a = b := TL.numL_inj (by rw [← dg_tl, ← dg_tl, h])
theorem dg_free {n s : Nat} (h : s < 48 ∨ 57 < s) : s ∉ TL.tl (dg n) := by rw [dg_tl]; exact TL.numL_free h
theorem dg_len {n : Nat} (h : n < 1000) : (dg n).length ≤ 3 := by rw [TL.len_tl, dg_tl]; exact TL.numL_len (by decide) h
theorem dg_dash {n : Nat} : dg n ≠ "-" := fun e => dg_free (n := n) (s := 45) (.inl (by decide)) (by rw [e]; decide +kernel)
theorem dg_log {n : Nat} (h : n < 1000) : ((n : Nat) : Int).natAbs.log2 < 1920 := by
  rw [Int.natAbs_natCast]
  have z : Nat.log2 n < 1920 := by
    by_cases e : n = 0
    · subst e; decide
    · exact Nat.lt_of_lt_of_le ((Nat.log2_lt (k := 10) e).mpr (Nat.lt_trans h (by decide))) (by decide)
  exact z
theorem len_join {a : Str} {L : Nat} {zs : List Str} (h : ∀ z ∈ zs, z.length ≤ L) : (zs.map (·.length)).sum + zs.length * a.length ≤ zs.length * (L + a.length) := by
  induction zs with
  | nil => simp
  | cons z r ih =>
    have h1 := h z List.mem_cons_self
    have h2 := ih fun y hy => h y (List.mem_cons_of_mem _ hy)
    rw [List.map_cons, List.sum_cons, List.length_cons, Nat.succ_mul, Nat.succ_mul]
    omega
theorem join_len {a : Str} {L : Nat} {zs : List Str} (h : ∀ z ∈ zs, z.length ≤ L) : (Txt.join a zs).length ≤ zs.length * (L + a.length) := by
  rw [TL.join_eq]
  exact Nat.le_trans (StrLaws.join_length_le a zs) (len_join h)
def ksT (sep : Str) (ks : List Int) : Str := if ks = [] then "-" else Txt.join sep (ks.map fun x => dg x.toNat)
theorem ksT_len {sep : Str} {ks : List Int} (l1 : sep.length = 1) (h : ∀ x ∈ ks, 0 ≤ x ∧ x < 1000) : (ksT sep ks).length ≤ 1 + ks.length * 4 := by
  unfold ksT
  split
  · have : ("-" : Str).length = 1 := by decide +kernel
    omega
  · have z := join_len (a := sep) (L := 3) (zs := ks.map fun x => dg x.toNat) fun z hz => by
      obtain ⟨x, hx, rfl⟩ := List.mem_map.mp hz
      exact dg_len (by have := h x hx; omega)
    rw [List.length_map, l1] at z
    omega
theorem join_free {s : Nat} {sep : Str} (hs : s ∉ TL.tl sep) : ∀ {zs : List Str}, (∀ z ∈ zs, s ∉ TL.tl z) → s ∉ TL.tl (Txt.join sep zs) := fun {zs} h => by
  rw [TL.join_eq, TL.tl_join]
  induction zs with
  | nil => simp [TL.joinL]
  | cons a r ih =>
    cases r with
    | nil => simpa [TL.joinL] using h a List.mem_cons_self
    | cons b r =>
      have h1 := h a List.mem_cons_self
      have h2 := ih fun z hz => h z (List.mem_cons_of_mem _ hz)
      show s ∉ TL.tl a ++ (TL.tl sep ++ TL.joinL (TL.tl sep) ((b :: r).map TL.tl))
      simp only [List.mem_append, not_or]
      exact ⟨h1, hs, h2⟩
theorem ksT_free {s : Nat} {sep : Str} {ks : List Int} (hs : s ∉ TL.tl sep) (h : s < 45 ∨ 57 < s) : s ∉ TL.tl (ksT sep ks) := by
  unfold ksT
  split
  · have e : TL.tl ("-" : Str) = [45] := by decide +kernel
    rw [e]; simp; omega
  · exact join_free hs fun z hz => by
      obtain ⟨x, hx, rfl⟩ := List.mem_map.mp hz
      exact dg_free (by omega)
def pbT (row : List Int) : Str := Txt.join " " ("probe" :: row.map fun x => dg x.toNat)
def btT (t : List (List Int)) : Str := Txt.join " " ("beats" :: t.map (ksT ","))
def hdT (m n : Nat) : Str := ((("keys " ++ dg m) ++ " slots ") ++ dg n)
def linesT (m n : Nat) (P : List (List Int)) (R : List (List (List Int))) : List Str := hdT m n :: (P.map pbT ++ R.map btT)
def setT (m n : Nat) (P : List (List Int)) (R : List (List (List Int))) : Str := Txt.join "\n" (linesT m n P R)
theorem hdT_join (m n : Nat) : hdT m n = Txt.join " " ["keys", dg m, "slots", dg n] := by
  rw [TL.join_eq]
  refine TL.ext_tl ?_
  unfold hdT
  rw [TL.tl_join, TL.tl_append, TL.tl_append, TL.tl_append]
  have e1 : TL.tl ("keys " : Str) = TL.tl ("keys" : Str) ++ TL.tl (" " : Str) := by decide +kernel
  have e2 : TL.tl (" slots " : Str) = TL.tl (" " : Str) ++ (TL.tl ("slots" : Str) ++ TL.tl (" " : Str)) := by decide +kernel
  rw [e1, e2]
  simp [TL.joinL, List.append_assoc]
theorem blank_ok : TL.tl (" " : Str) = [32] ∧ (" " : Str).cps.all (· < 256) = true ∧ (" " : Str).length = 1 := by decide +kernel
theorem comma_ok : TL.tl ("," : Str) = [44] ∧ ("," : Str).cps.all (· < 256) = true ∧ ("," : Str).length = 1 := by decide +kernel
theorem nl_ok : TL.tl ("\n" : Str) = [10] ∧ ("\n" : Str).cps.all (· < 256) = true ∧ ("\n" : Str).length = 1 := by decide +kernel
theorem split_ok {sep : Str} {s : Nat} (h : TL.tl sep = [s] ∧ sep.cps.all (· < 256) = true ∧ sep.length = 1) {zs : List Str} (ne : zs ≠ []) (free : ∀ z ∈ zs, s ∉ TL.tl z) : Txt.split (Txt.join sep zs) sep = zs := TL.split_join h.1 h.2.1 ne free
theorem pbT_free (row : List Int) : 10 ∉ TL.tl (pbT row) := join_free (by decide +kernel) fun z hz => by
  rcases List.mem_cons.mp hz with rfl | hz
  · decide +kernel
  · obtain ⟨x, hx, rfl⟩ := List.mem_map.mp hz
    exact dg_free (by decide)
theorem btT_free (t : List (List Int)) : 10 ∉ TL.tl (btT t) := join_free (by decide +kernel) fun z hz => by
  rcases List.mem_cons.mp hz with rfl | hz
  · decide +kernel
  · obtain ⟨x, hx, rfl⟩ := List.mem_map.mp hz
    exact ksT_free (by decide +kernel) (by decide)
theorem hdT_free (m n : Nat) : 10 ∉ TL.tl (hdT m n) := by
  rw [hdT_join]
  refine join_free (by decide +kernel) fun z hz => ?_
  simp only [List.mem_cons, List.not_mem_nil, or_false] at hz
  rcases hz with rfl | rfl | rfl | rfl
  · decide +kernel
  · exact dg_free (by decide)
  · decide +kernel
  · exact dg_free (by decide)
theorem lines_back (m n : Nat) (P : List (List Int)) (R : List (List (List Int))) : Txt.split (setT m n P R) "\n" = linesT m n P R := by
  refine split_ok nl_ok (by unfold linesT; simp) fun z hz => ?_
  rcases List.mem_cons.mp hz with rfl | hz
  · exact hdT_free m n
  · rcases List.mem_append.mp hz with hz | hz
    · obtain ⟨x, _, rfl⟩ := List.mem_map.mp hz
      exact pbT_free x
    · obtain ⟨x, _, rfl⟩ := List.mem_map.mp hz
      exact btT_free x
theorem hd_back (m n : Nat) : Txt.split (hdT m n) " " = [("keys" : Str), dg m, "slots", dg n] := by
  rw [hdT_join]
  refine split_ok blank_ok (by simp) fun z hz => ?_
  simp only [List.mem_cons, List.not_mem_nil, or_false] at hz
  rcases hz with rfl | rfl | rfl | rfl
  · decide +kernel
  · exact dg_free (by decide)
  · decide +kernel
  · exact dg_free (by decide)
theorem pr_back (row : List Int) : Txt.split (pbT row) " " = ("probe" : Str) :: row.map fun x => dg x.toNat := by
  refine split_ok blank_ok (by simp) fun z hz => ?_
  rcases List.mem_cons.mp hz with rfl | hz
  · decide +kernel
  · obtain ⟨x, hx, rfl⟩ := List.mem_map.mp hz
    exact dg_free (by decide)
theorem bt_back (t : List (List Int)) : Txt.split (btT t) " " = ("beats" : Str) :: t.map (ksT ",") := by
  refine split_ok blank_ok (by simp) fun z hz => ?_
  rcases List.mem_cons.mp hz with rfl | hz
  · decide +kernel
  · obtain ⟨x, hx, rfl⟩ := List.mem_map.mp hz
    exact ksT_free (by decide +kernel) (by decide)
theorem ks_back {ks : List Int} (ne : ks ≠ []) : ksT "," ks ≠ "-" ∧ Txt.split (ksT "," ks) "," = ks.map fun x => dg x.toNat := by
  have e : ksT "," ks = Txt.join "," (ks.map fun x => dg x.toNat) := if_neg ne
  have z : Txt.split (ksT "," ks) "," = ks.map fun x => dg x.toNat := by
    rw [e]
    refine split_ok comma_ok (fun h => ne (List.map_eq_nil_iff.mp h)) fun z hz => ?_
    obtain ⟨x, hx, rfl⟩ := List.mem_map.mp hz
    exact dg_free (by decide)
  refine ⟨fun q => ?_, z⟩
  rw [q] at z
  have s : Txt.split ("-" : Str) "," = [("-" : Str)] := by
    have := split_ok comma_ok (zs := [("-" : Str)]) (by simp) (by intro z hz; rw [List.mem_singleton.mp hz]; decide +kernel)
    exact this
  rw [s] at z
  cases ks with
  | nil => exact ne rfl
  | cons x r =>
    rw [List.map_cons] at z
    exact dg_dash (List.cons.inj z).1.symm
theorem pbT_len {row : List Int} (h : ∀ x ∈ row, 0 ≤ x ∧ x < 1000) : (pbT row).length ≤ (row.length + 1) * 6 := by
  have z := join_len (a := " ") (L := 5) (zs := "probe" :: row.map fun x => dg x.toNat) fun z hz => by
    rcases List.mem_cons.mp hz with rfl | hz
    · decide +kernel
    · obtain ⟨x, hx, rfl⟩ := List.mem_map.mp hz
      have := dg_len (n := x.toNat) (by have := h x hx; omega)
      omega
  rw [List.length_cons, List.length_map, blank_ok.2.2] at z
  exact z
theorem btT_len {t : List (List Int)} {k : Nat} (h : ∀ r ∈ t, r.length ≤ k ∧ ∀ x ∈ r, 0 ≤ x ∧ x < 1000) : (btT t).length ≤ (t.length + 1) * (k * 4 + 7) := by
  have z := join_len (a := " ") (L := k * 4 + 6) (zs := "beats" :: t.map (ksT ",")) fun z hz => by
    rcases List.mem_cons.mp hz with rfl | hz
    · have : ("beats" : Str).length = 5 := by decide +kernel
      omega
    · obtain ⟨x, hx, rfl⟩ := List.mem_map.mp hz
      have z1 := ksT_len comma_ok.2.2 (h x hx).2
      have z2 : x.length * 4 ≤ k * 4 := Nat.mul_le_mul_right 4 (h x hx).1
      omega
  rw [List.length_cons, List.length_map, blank_ok.2.2] at z
  exact z
end DL
--ELX
--ELO
--ELP
--ELQ
--ELR
--ELS
--ELU
namespace DL
open PySem PySem.Spec PyProof.Rows L2 LamX PySem.W SL
def g_showK : DRs := fun ds st Q => ∃ (ks : List Int) (sep : Str), ds = [rowD ks, .str sep] ∧ sep.length = 1 ∧ ks.length ≤ 60 ∧ (∀ x ∈ ks, 0 ≤ x ∧ x < 1000) ∧ Q (.str (ksT sep ks)) st
theorem ar_showK (ds : List D) (st : DSt) (Q : DK) (h : g_showK ds st Q) : ds.length = 2 := by
  obtain ⟨_, _, rfl, _⟩ := h
  rfl
theorem ints_dg {I : DIt} {r : DEnv} {Q : List D → DSt → Prop} {st : DSt} {i : Nat} (es : I.src = none) {ks : List Int} (h : ∀ x ∈ ks, 0 ≤ x ∧ x < 1000) (hi : i < r.length) (q : Q (ks.map fun x => D.str (dg x.toNat)) st) : compL I (gNm i) dtYes (dCB dStrI (daCons (dVar i) daNil)) r Q (ks.map D.int) [] st := by
  refine comp_noX es D.int (fun x : Int => D.str (dg x.toNat)) ks [] (fun x hx Q2 q2 => ?_) (by rw [List.nil_append]; exact q)
  obtain ⟨h0, h1⟩ := h x hx
  have e : ((x.toNat : Nat) : Int) = x := by omega
  have z := dg_log (n := x.toNat) (by omega)
  have w : dg x.toNat = Str.ofString (toString x) := by unfold dg; rw [e]
  rw [e] at z
  rw [w] at q2
  show onOO (r.set i (some (D.int x)))[i]? _
  rw [List.getElem?_set_self hi]
  exact ⟨z, q2⟩
theorem sem_showK (ds : List D) (st : DSt) (Q : DK) (h : g_showK ds st Q) : F_show_keys { nx := fun _ st' => Rt st Q .non st', rt := Rt st Q } (startD 3 ds) st := by
  obtain ⟨ks, sep, rfl, l1, few, h, q⟩ := h
  have st3 : startD 3 [.tup (ks.map D.int), D.str sep] = [some (.tup (ks.map D.int)), some (.str sep), none] := rfl
  have big : (100000 : Nat) ≤ sizeLine := by decide
  show F_show_keys _ (startD 3 [.tup (ks.map D.int), D.str sep]) st
  simp only [F_show_keys, st3]
  try dsimp only
  rw [e_seq]
  exists 2
  by_cases e : ks = []
  · subst e
    refine iteT' rfl ?_
    have z : ksT sep [] = "-" := if_pos rfl
    rw [z] at q
    exact .inl q
  · have z : ksT sep ks = Txt.join sep (ks.map fun x => dg x.toNat) := if_neg e
    rw [z] at q
    refine iteF' (decide_eq_false fun c => e (List.length_eq_zero_iff.mp (by omega))) ?_
    have it : itOf st (.tup (ks.map D.int)) = some ⟨ks.map D.int, none⟩ := rfl
    exists 3, it, List.length_map
    refine ⟨by omega, ?_⟩
    refine ints_dg rfl h (by simp) ?_
    have sd : strsD (ks.map fun x => D.str (dg x.toNat)) = some (ks.map fun x => dg x.toNat) := by
      have z := strsD_strs (ks.map fun x => dg x.toNat)
      rw [List.map_map] at z
      exact z
    show finT _ _ _
    simp only [e_finT, e_seqL, sd, e_onO]
    have lj := len_join (a := sep) (L := 3) (zs := ks.map fun x => dg x.toNat) fun z hz => by
      obtain ⟨x, hx, rfl⟩ := List.mem_map.mp hz
      exact dg_len (by have := h x hx; omega)
    exact ⟨Nat.le_trans lj (by rw [List.length_map, l1]; omega), .inl q⟩
structure Shw (m n : Nat) (P : List (List Int)) (R : List (List (List Int))) : Prop where
  S : Setg m n P R
  m0 : 1 ≤ m
  m16 : m ≤ 16
  n0 : 1 ≤ n
  n16 : n ≤ 16
section
variable {m n : Nat} {P : List (List Int)} {R : List (List (List Int))}
theorem Shw.pr (X : Shw m n P R) : ∀ p ∈ P, p.length = n ∧ ∀ x ∈ p, 0 ≤ x ∧ x < 1000 := fun p hp => by
  have o := X.S.po p hp
  have n16 := X.n16
  exact ⟨o.len, fun x hx => by have := o.mem.mp hx; omega⟩
theorem Tb.rows {t : List (List Int)} (tb : Tb m t) : ∀ r ∈ t, r.Pairwise (· < ·) ∧ ∀ x ∈ r, 0 ≤ x ∧ x < (m : Int) := fun r hr => by
  obtain ⟨a, ha, e⟩ := List.getElem_of_mem hr
  have e2 : t.getD a [] = r := by rw [List.getD_eq_getElem?_getD, List.getElem?_eq_getElem ha]; exact e
  have lt : a < m := by rw [← tb.len]; exact ha
  have z1 := tb.asc a lt
  have z2 := tb.inr a lt
  rw [e2] at z1 z2
  exact ⟨z1, z2⟩
theorem row_len (X : Shw m n P R) {t : List (List Int)} (ht : t ∈ R) : t.length = m ∧ ∀ r ∈ t, r.length ≤ 16 ∧ ∀ x ∈ r, 0 ≤ x ∧ x < 1000 := by
  have tb := X.S.rt t ht
  have m16 := X.m16
  refine ⟨tb.len, fun r hr => ?_⟩
  obtain ⟨pw, h⟩ := tb.rows r hr
  refine ⟨?_, fun x hx => by have := h x hx; omega⟩
  have nd : r.Nodup := pw.imp fun h => by omega
  have z := sub_len (ys := DL.R m) nd fun x hx => R_mem.mpr (h x hx)
  rw [R_length] at z
  omega
theorem emp_app (x : Str) : Str.empty ++ x = x := TL.ext_tl (by rw [TL.tl_append]; rfl)
theorem hdT_len {m n : Nat} (hm : m < 1000) (hn : n < 1000) : (hdT m n).length ≤ 40 := by
  unfold hdT
  have a := dg_len hm
  have b := dg_len hn
  rw [Str.length_append, Str.length_append, Str.length_append]
  have e1 : ("keys " : Str).length = 5 := by decide +kernel
  have e2 : (" slots " : Str).length = 7 := by decide +kernel
  omega
theorem sd_map {α : Type} (f : α → Str) (xs : List α) : strsD (xs.map fun x => D.str (f x)) = some (xs.map f) := by
  have z := strsD_strs (xs.map f)
  rw [List.map_map] at z
  exact z
theorem join_row {w : Str} {α : Type} {f : α → Str} {xs : List α} {L : Nat} {st : DSt} {Q : DK} (hw : w.length ≤ L) (h : ∀ x ∈ xs, (f x).length ≤ L) (few : xs.length ≤ 100) (lL : L ≤ 1000) (q : Q (.str (Txt.join " " (w :: xs.map f))) st) :
    dAdd (.lst [.str w]) (.lst (xs.map fun x => D.str (f x))) st fun y st2 => onO (seqS st2 y) fun ds => onO (strsD ds) fun zs => (zs.map (·.length)).sum + zs.length * (" " : Str).length ≤ 16777216 ∧ Q (.str (Txt.join " " zs)) st2 := by
  have big : (100000 : Nat) ≤ sizeLine := by decide
  have e : strsD (D.str w :: xs.map fun x => D.str (f x)) = some (w :: xs.map f) := by
    have z := sd_map id (w :: xs.map f)
    rw [List.map_id, List.map_cons, List.map_map] at z
    exact z
  exists 2
  refine ⟨by show 1 + xs.length ≤ _; omega, ?_⟩
  show onO (strsD (D.str w :: xs.map fun x => D.str (f x))) _
  rw [e]
  have lj := len_join (a := " ") (L := L) (zs := w :: xs.map f) fun z hz => by
    rcases List.mem_cons.mp hz with rfl | hz
    · exact hw
    · obtain ⟨x, hx, rfl⟩ := List.mem_map.mp hz
      exact h x hx
  refine ⟨Nat.le_trans lj ?_, q⟩
  rw [List.length_cons, List.length_map, blank_ok.2.2]
  have : (xs.length + 1) * (L + 1) ≤ 101 * 1001 := Nat.mul_le_mul (by omega) (by omega)
  omega
theorem set_strs (X : Shw m n P R) : strsD ([D.str (hdT m n)] ++ P.map (fun p => D.str (pbT p)) ++ R.map (fun t => D.str (btT t))) = some (linesT m n P R) := by
  have e : [D.str (hdT m n)] ++ P.map (fun p => D.str (pbT p)) ++ R.map (fun t => D.str (btT t)) = (linesT m n P R).map D.str := by
    unfold linesT
    rw [List.map_cons, List.map_append, List.map_map, List.map_map]
    rfl
  rw [e]
  exact strsD_strs _
theorem lines_len (X : Shw m n P R) : (linesT m n P R).length = 1 + m + n ∧ ∀ z ∈ linesT m n P R, z.length ≤ 1300 := by
  have m16 := X.m16
  have n16 := X.n16
  unfold linesT
  refine ⟨by rw [List.length_cons, List.length_append, List.length_map, List.length_map, X.S.pl, X.S.rl]; omega, fun z hz => ?_⟩
  rcases List.mem_cons.mp hz with rfl | hz
  · have := hdT_len (m := m) (n := n) (by omega) (by omega)
    omega
  · rcases List.mem_append.mp hz with hz | hz
    · obtain ⟨p, hp, rfl⟩ := List.mem_map.mp hz
      obtain ⟨lp, hx⟩ := X.pr p hp
      have := pbT_len hx
      omega
    · obtain ⟨t, ht, rfl⟩ := List.mem_map.mp hz
      obtain ⟨lt, hx⟩ := row_len X ht
      have := btT_len hx
      have : (t.length + 1) * (16 * 4 + 7) ≤ 17 * 71 := Nat.mul_le_mul (by omega) (by omega)
      omega
theorem setT_fit (X : Shw m n P R) : ((linesT m n P R).map (·.length)).sum + (linesT m n P R).length * ("\n" : Str).length ≤ 16777216 ∧ (setT m n P R).length ≤ 50000 := by
  have m16 := X.m16
  have n16 := X.n16
  obtain ⟨l1, l2⟩ := lines_len X
  have a := len_join (a := "\n") l2
  have b := join_len (a := "\n") l2
  rw [nl_ok.2.2] at a b
  have c : (linesT m n P R).length * (1300 + 1) ≤ 33 * 1301 := Nat.mul_le_mul_right _ (by omega)
  unfold setT
  rw [nl_ok.2.2]
  omega
theorem onL_own {S : DSt} {n : Nat} {xs : List D} {k : Nat → List D → Prop} (e : S[n]? = some (.lst xs)) : onL S (.ref n) k = k n xs := by
  unfold onL
  simp only [e]
end
def g_showS : DRs := fun ds st Q => ∃ (m n : Nat) (P : List (List Int)) (R : List (List (List Int))), ds = [rowsD P, tabsD R] ∧ Shw m n P R ∧ Q (.str (setT m n P R)) st
theorem ar_showS (ds : List D) (st : DSt) (Q : DK) (h : g_showS ds st Q) : ds.length = 2 := by
  obtain ⟨_, _, _, _, rfl, _⟩ := h
  rfl
theorem sem_showS (ds : List D) (st : DSt) (Q : DK) (h : g_showS ds st Q) : F_show_setting g_showK { nx := fun _ st' => Rt st Q .non st', rt := Rt st Q } (startD 7 ds) st := by
  obtain ⟨m, n, P, R, rfl, X, q⟩ := h
  have st6 : startD 7 [.tup (P.map rowD), .tup (R.map rowsD)] = [some (.tup (P.map rowD)), some (.tup (R.map rowsD)), none, none, none, none, none] := rfl
  have big : (100000 : Nat) ≤ sizeLine := by decide
  have m16 := X.m16
  have n16 := X.n16
  show F_show_setting g_showK _ (startD 7 [.tup (P.map rowD), .tup (R.map rowsD)]) st
  simp only [F_show_setting, st6]
  try dsimp only
  rw [e_seq]
  exists 2
  rw [X.S.pl, X.S.rl, emp_app]
  have e1 : Str.ofString "keys " ++ Str.ofString (toString ((m : Nat) : Int)) ++ Str.ofString " slots " ++ Str.ofString (toString ((n : Nat) : Int)) = hdT m n := rfl
  rw [e1]
  have lh := hdT_len (m := m) (n := n) (by omega) (by omega)
  have l0 : (hdT m n).length = (Str.ofString "keys " ++ Str.ofString (toString ((m : Nat) : Int)) ++ Str.ofString " slots ").length + (dg n).length := by rw [← Str.length_append]; rfl
  have l1 : (Str.ofString "keys " ++ Str.ofString (toString ((m : Nat) : Int)) ++ Str.ofString " slots ").length = (Str.ofString "keys " ++ Str.ofString (toString ((m : Nat) : Int))).length + (Str.ofString " slots ").length := Str.length_append _ _
  have l2 : (Str.ofString "keys " ++ Str.ofString (toString ((m : Nat) : Int))).length = (Str.ofString "keys ").length + (dg m).length := Str.length_append _ _
  refine ⟨by omega, dg_log (by omega), by omega, by omega, dg_log (by omega), by omega, ?_⟩
  have it : ∀ (xs : List D) (s : DSt), itOf s (.tup xs) = some ⟨xs, none⟩ := fun _ _ => rfl
  try dsimp only
  rw [e_seq]
  exists 3, it, List.length_map, X.S.pl
  refine ⟨by omega, ?_⟩
  refine comp_noX rfl rowD (fun p => D.str (pbT p)) P [] (fun p hp Q2 q2 => ?_) ?_
  · obtain ⟨lp, hx⟩ := X.pr p hp
    have er : rowD p = .tup (p.map D.int) := rfl
    exists 3, er, it, List.length_map
    refine ⟨by omega, ?_⟩
    refine ints_dg rfl hx (by simp) ?_
    exact join_row (L := 5) (by decide +kernel) (fun x h => by have := dg_len (n := x.toNat) (by have := hx x h; omega); omega) (by omega) (by decide) q2
  · rw [List.nil_append]
    simp only [e_finN]
    have g0 : ∀ (a b : O), (st ++ [a] ++ [b])[st.length]? = some a := fun a b => by rw [List.append_assoc]; exact g3X 0
    have g1 : ∀ (a b : O), (st ++ [a] ++ [b])[(st ++ [a]).length]? = some b := fun a b => g3X 0
    have s0 : ∀ (a b c : O), (st ++ [a] ++ [b]).set st.length c = st ++ [c] ++ [b] := fun a b c => by rw [List.append_assoc, List.append_assoc]; exact s3X 0 c
    rw [onL_own (g0 _ _), onL_own (g1 _ _)]
    refine ⟨by rw [List.length_map]; show 1 + _ ≤ _; rw [X.S.pl]; omega, ?_⟩
    rw [s0]
    have g2 : ∀ (a b c : O), (st ++ [a] ++ [b] ++ [c])[st.length]? = some a := fun a b c => by rw [List.append_assoc, List.append_assoc]; exact g3X 0
    have g2' : ∀ (a b c : O), (st ++ [a] ++ [b] ++ [c])[(st ++ [a] ++ [b]).length]? = some c := fun a b c => g3X 0
    have s2 : ∀ (a b c d : O), (st ++ [a] ++ [b] ++ [c]).set st.length d = st ++ [d] ++ [b] ++ [c] := fun a b c d => by simp only [List.append_assoc]; exact s3X 0 d
    try dsimp only
    rw [e_seq]
    exists 3, it, List.length_map, X.S.rl
    refine ⟨by omega, ?_⟩
    refine comp_noX rfl rowsD (fun t => D.str (btT t)) R [] (fun t ht Q2 q2 => ?_) ?_
    · obtain ⟨lt, hx⟩ := row_len X ht
      have er : rowsD t = .tup (t.map rowD) := rfl
      exists 3, er, it, List.length_map
      refine ⟨by omega, ?_⟩
      refine comp_noX rfl rowD (fun r => D.str (ksT "," r)) t [] (fun r hr Q3 q3 => ?_) ?_
      · obtain ⟨l1, h1⟩ := hx r hr
        exists 3
        exact ⟨r, ",", rfl, comma_ok.2.2, by omega, h1, q3⟩
      · rw [List.nil_append]
        exact join_row (L := 70) (by decide +kernel) (fun r hr => by
          obtain ⟨l1, h1⟩ := hx r hr
          have := ksT_len comma_ok.2.2 h1
          omega) (by omega) (by decide) q2
    · rw [List.nil_append]
      simp only [e_finN]
      rw [onL_own (g2 _ _ _), onL_own (g2' _ _ _)]
      refine ⟨by rw [List.length_append, List.length_map, List.length_map, X.S.pl, X.S.rl]; show 1 + m + n ≤ _; omega, ?_⟩
      rw [s2]
      have eq : ∀ (xs : List D) (b c : O), seqS (st ++ [O.lst xs] ++ [b] ++ [c]) (.ref st.length) = some xs := fun xs b c => by unfold seqS; simp only [g2]
      exists 3, eq
      rw [set_strs X]
      simp only [e_onO]
      refine ⟨(setT_fit X).1, ?_⟩
      simp only [List.append_assoc]
      exact rt_drop rfl rfl (fun i o h => .inl h) q
end DL
--ELX
--ELO
--ELP
--ELQ
--ELR
--ELS
--ELU
namespace DL
open PySem PySem.Spec PyProof.Rows L2 LamX PySem.W SL
theorem cmp_nilS {st : DSt} {k c : Nat} {xs : List D} {Q : DK} (neg : Bool) (sm : Sm k c (.tup xs)) (hk : k ≤ 50) (q : Q (.bl (if neg then !xs.isEmpty else xs.isEmpty)) st) : dEqG neg (.tup xs) (.tup []) st Q := by
  obtain ⟨p, e1, el⟩ := sm
  have e1' : (pdTs xs).map PyData.tuple = some p := by
    have z := e1
    simp only [pdT] at z
    exact z
  obtain ⟨ps, eq, ep⟩ := Option.map_eq_some_iff.mp e1'
  subst ep
  have p1 : pdS st (.tup xs) = some (.tuple ps) := by rw [← e1]; rfl
  have p2 : pdS st (.tup []) = some (.tuple []) := by simp [pdS, pdT, pdTs]
  have l : ps.length = xs.length := by
    have z := (pdTs_all eq).1
    rw [z, List.length_map]
  have go : dEqD neg (.tup xs) (.tup []) st Q := by
    unfold dEqD
    rw [p1, p2]
    refine ⟨⟨Sm.shaped el hk, by decide +kernel⟩, ?_⟩
    have ee : PyData.eqv (.tuple ps) (.tuple []) = ps.isEmpty := by cases ps <;> simp [PyData.eqv, PyData.eqvAll]
    have e3 : ps.isEmpty = xs.isEmpty := by
      cases ps <;> cases xs <;> simp at l ⊢
    rw [ee, e3]
    exact q
  cases neg <;> exact go
theorem sem_text (ds : List D) (st : DSt) (Q : DK) (h : g_showS ds st Q) : F__law_text { nx := fun _ st' => Rt st Q .non st', rt := Rt st Q } (startD 9 ds) st := by
  obtain ⟨m, n, P, R, rfl, X, q⟩ := h
  have st9 : startD 9 [.tup (P.map rowD), .tup (R.map rowsD)] = [some (.tup (P.map rowD)), some (.tup (R.map rowsD)), none, none, none, none, none, none, none] := rfl
  have big : (100000 : Nat) ≤ sizeLine := by decide
  have m16 := X.m16
  have n16 := X.n16
  show F__law_text _ (startD 9 [.tup (P.map rowD), .tup (R.map rowsD)]) st
  simp only [F__law_text, st9]
  try dsimp only
  rw [e_seq]
  exists 2
  rw [X.S.pl, X.S.rl]
  have e1 : Str.ofString "keys " ++ Str.ofString (toString ((m : Nat) : Int)) ++ Str.ofString " slots " ++ Str.ofString (toString ((n : Nat) : Int)) = hdT m n := rfl
  rw [e1]
  have lh := hdT_len (m := m) (n := n) (by omega) (by omega)
  have l0 : (hdT m n).length = (Str.ofString "keys " ++ Str.ofString (toString ((m : Nat) : Int)) ++ Str.ofString " slots ").length + (dg n).length := by rw [← Str.length_append]; rfl
  have l1 : (Str.ofString "keys " ++ Str.ofString (toString ((m : Nat) : Int)) ++ Str.ofString " slots ").length = (Str.ofString "keys " ++ Str.ofString (toString ((m : Nat) : Int))).length + (Str.ofString " slots ").length := Str.length_append _ _
  have l2 : (Str.ofString "keys " ++ Str.ofString (toString ((m : Nat) : Int))).length = (Str.ofString "keys ").length + (dg m).length := Str.length_append _ _
  refine ⟨dg_log (by omega), by rw [← Str.length_append]; omega, by rw [← Str.length_append]; omega, dg_log (by omega), ?_, ?_⟩
  · have e : Str.ofString (toString ((n : Nat) : Int)) = dg n := rfl
    rw [e]
    omega
  have it : ∀ (xs : List D) (s : DSt), itOf s (.tup xs) = some ⟨xs, none⟩ := fun _ _ => rfl
  have g0 : ∀ (a : O), (st ++ [a])[st.length]? = some a := fun a => g3X 0
  have s0 : ∀ (a c : O), (st ++ [a]).set st.length c = st ++ [c] := fun a c => s3X 0 c
  try dsimp only
  rw [e_seq]
  exists 3, it, List.length_map, X.S.pl
  refine ⟨lstD_ownX (g0 _), by omega, ?_⟩
  refine comp_noX rfl rowD (fun p => D.str (pbT p)) P [] (fun p hp Q2 q2 => ?_) ?_
  · obtain ⟨lp, hx⟩ := X.pr p hp
    have er : rowD p = .tup (p.map D.int) := rfl
    exists 3, er, it, List.length_map
    refine ⟨by omega, ?_⟩
    refine ints_dg rfl hx (by simp) ?_
    exact join_row (L := 5) (by decide +kernel) (fun x h => by have := dg_len (n := x.toNat) (by have := hx x h; omega); omega) (by omega) (by decide) q2
  rw [List.nil_append]
  simp only [e_finT]
  have ext : ∀ {S : DSt} {k : Nat} {xs ys : List D} {Q : DK}, S[k]? = some (.lst xs) → xs.length + ys.length ≤ sizeLine → Q .non (S.set k (.lst (xs ++ ys))) → mExtend (.ref k) [.lst ys] S Q := fun {S k xs ys Q} e l q => by
    show onL S (.ref k) fun n xs => onO (lstS S (.lst ys)) fun ys => xs.length + ys.length ≤ sizeLine ∧ Q .non (S.set n (.lst (xs ++ ys)))
    rw [onL_own e]
    exact ⟨l, q⟩
  refine ext (g0 _) (by rw [List.length_map, X.S.pl]; show 1 + m ≤ _; omega) ?_
  rw [s0]
  try dsimp only
  rw [e_seq]
  exists 3, it
  refine for_list rowsD (fun left r S => ∃ (done : List (List (List Int))) (x3 x4 x5 x6 x7 x8 : Option D), R = done ++ left ∧ r = [some (.tup (P.map rowD)), some (.tup (R.map rowsD)), some (.ref st.length), x3, x4, x5, x6, x7, x8] ∧
    S = st ++ [.lst ([D.str (hdT m n)] ++ P.map (fun p => D.str (pbT p)) ++ done.map (fun t => D.str (btT t)))]) ?_ ?_ R _ _ ⟨[], none, none, none, none, none, none, rfl, rfl, by rw [List.map_nil, List.append_nil]⟩
  · rintro t left r S N hN ⟨done, x3, x4, x5, x6, x7, x8, eR, rfl, rfl⟩
    have ht : t ∈ R := by rw [eR]; simp
    obtain ⟨lt, hx⟩ := row_len X ht
    have er : rowsD t = .tup (t.map rowD) := rfl
    have lR := X.S.rl
    rw [eR, List.length_append, List.length_cons] at lR
    exists 3
    try dsimp only
    rw [e_seq]
    exists 3, er, it, List.length_map
    refine ⟨by omega, ?_⟩
    refine comp_noX rfl rowD (fun r => D.str (ksT "," r)) t [] (fun r hr Q3 q3 => ?_) ?_
    · obtain ⟨l1, h1⟩ := hx r hr
      have er : rowD r = .tup (r.map D.int) := rfl
      exists 3, er
      refine cmp_nilS true (sm_row (m := 16) (fun x hx => by have := h1 x hx; omega) l1) (by decide) ?_
      by_cases e : r = []
      · subst e
        have z : ksT "," [] = "-" := if_pos rfl
        rw [z] at q3
        simp only [e_onB, List.map_nil, List.isEmpty_nil, if_true, Bool.not_true, Bool.false_eq_true, if_false]
        exact q3
      · have z : ksT "," r = Txt.join "," (r.map fun x => dg x.toNat) := if_neg e
        rw [z] at q3
        refine iteT' (by cases r with | nil => exact absurd rfl e | cons _ _ => rfl) ?_
        refine ⟨by rw [List.length_map]; omega, ?_⟩
        refine ints_dg rfl h1 (by simp) ?_
        have sd : strsD (r.map fun x => D.str (dg x.toNat)) = some (r.map fun x => dg x.toNat) := sd_map _ _
        show onO (strsD (r.map fun x => D.str (dg x.toNat))) _
        rw [sd]
        have lj := len_join (a := ",") (L := 3) (zs := r.map fun x => dg x.toNat) fun z hz => by
          obtain ⟨x, hx, rfl⟩ := List.mem_map.mp hz
          exact dg_len (by have := h1 x hx; omega)
        exact ⟨Nat.le_trans lj (by rw [List.length_map, comma_ok.2.2]; omega), q3⟩
    rw [List.nil_append]
    simp only [e_finT]
    exists 3
    refine ⟨lstD_ownX (g0 _), ?_⟩
    refine join_row (Q := fun d st' => mAppend (.ref st.length) [d] st' fun x st1 => N [some (.tup (P.map rowD)), some (.tup (R.map rowsD)), some (.ref st.length), some (.tup (t.map rowD)), some (.lst (t.map fun r => D.str (ksT "," r))), x5, x6, x7, x8] st1) (w := "beats") (f := ksT ",") (L := 70) (by decide +kernel) (fun r hr => by
      obtain ⟨l1, h1⟩ := hx r hr
      have := ksT_len comma_ok.2.2 h1
      omega) (by omega) (by decide) ?_
    refine app_lkX (g0 _) ?_ ?_
    · rw [List.length_append, List.length_append, List.length_map, List.length_map, X.S.pl]
      show 1 + m + done.length < _
      omega
    rw [s0]
    refine hN _ _ (.inl ⟨done ++ [t], _, _, _, _, _, _, by rw [eR, List.append_assoc]; rfl, rfl, ?_⟩)
    rw [List.map_append, ← List.append_assoc]
    rfl
  · rintro r S ⟨done, x3, x4, x5, x6, x7, x8, eR, rfl, rfl⟩
    rw [List.append_nil] at eR
    subst eR
    have eq : ∀ (xs : List D), seqS (st ++ [O.lst xs]) (.ref st.length) = some xs := fun xs => by unfold seqS; simp only [g0]
    exists 3, eq
    rw [set_strs X]
    simp only [e_onO]
    refine ⟨(setT_fit X).1, ?_⟩
    exact rt_drop rfl rfl (fun i o h => .inl h) q
end DL
--ELX
--ELO
--ELP
--ELQ
--ELR
--ELS
--ELU
namespace DL
open PySem PySem.Spec PyProof.Rows L2 LamX PySem.W SL
def numO (z : Str) : Nat → Nat → D
  | _, 0 => .non
  | lo, n + 1 => if z = dg lo then .int lo else numO z (lo + 1) n
theorem numO_dg {k : Nat} : ∀ {n lo : Nat}, lo ≤ k → k < lo + n → numO (dg k) lo n = .int k
  | 0, lo, a, b => by omega
  | n + 1, lo, a, b => by
    unfold numO
    by_cases e : k = lo
    · rw [if_pos (by rw [e]), e]
    · rw [if_neg fun h => e (dg_inj h)]
      exact numO_dg (by omega) (by omega)
def g_num : DRs := fun ds st Q => ∃ (z : Str) (lo n : Nat), ds = [.str z, .int lo, .int ((lo : Int) + n - 1)] ∧ lo + n ≤ 100 ∧ Q (numO z lo n) st
theorem ar_num (ds : List D) (st : DSt) (Q : DK) (h : g_num ds st Q) : ds.length = 3 := by
  obtain ⟨_, _, _, rfl, _⟩ := h
  rfl
theorem rgD_suc (lo : Int) (n : Nat) : rgD lo (n + 1) = .int lo :: rgD (lo + 1) n := by
  unfold rgD
  rw [List.range_succ_eq_map, List.map_cons, List.map_map]
  congr 1
  · simp
  · apply List.map_congr_left
    intro i _
    show D.int (lo + ((i + 1 : Nat) : Int)) = D.int (lo + 1 + (i : Int))
    congr 1
    omega
theorem sem_num (ds : List D) (st : DSt) (Q : DK) (h : g_num ds st Q) : F_number_of { nx := fun _ st' => Rt st Q .non st', rt := Rt st Q } (startD 4 ds) st := by
  obtain ⟨z, lo, n, rfl, few, q⟩ := h
  have st4 : startD 4 [D.str z, D.int lo, D.int ((lo : Int) + n - 1)] = [some (.str z), some (.int lo), some (.int ((lo : Int) + n - 1)), none] := rfl
  have big : (100000 : Nat) ≤ sizeLine := by decide
  simp only [F_number_of, st4]
  try dsimp only
  rw [e_seq]
  exists 3
  refine ⟨by omega, ?_⟩
  have en : ((lo : Int) + n - 1 + 1 - lo).toNat = n := by omega
  refine for_inv (fun left r S => ∃ (lo' n' : Nat) (x3 : Option D), left = rgD (lo' : Int) n' ∧ r = [some (.str z), some (.int lo), some (.int ((lo : Int) + n - 1)), x3] ∧ S = st ∧ lo' + n' ≤ 100 ∧ Q (numO z lo' n') st) ?_ ?_ _ _ _ ⟨lo, n, none, by rw [en], rfl, rfl, few, q⟩
  · rintro d ds r S N hN ⟨lo', n', x3, e, rfl, rfl, few, q⟩
    cases n' with
    | zero => cases e
    | succ n' =>
      rw [rgD_suc] at e
      obtain ⟨rfl, rfl⟩ := List.cons.inj e
      exists 3
      refine ⟨dg_log (by omega), ?_⟩
      have ed : Str.ofString (toString ((lo' : Nat) : Int)) = dg lo' := rfl
      rw [ed]
      unfold numO at q
      by_cases ez : z = dg lo'
      · rw [if_pos ez] at q
        refine iteT' (decide_eq_true ez) ?_
        exact .inl q
      · rw [if_neg ez] at q
        refine iteF' (decide_eq_false ez) ?_
        exact hN _ _ (.inl ⟨lo' + 1, n', _, by rw [show (((lo' + 1 : Nat)) : Int) = (lo' : Int) + 1 by omega], rfl, rfl, by omega, q⟩)
  · rintro r S ⟨lo', n', x3, e, rfl, rfl, few, q⟩
    cases n' with
    | succ n' => rw [rgD_suc] at e; cases e
    | zero =>
      exists 3
      exact .inl q
def g_words : DRs := fun ds st Q => ∃ (lines ws : List Str) (i : Nat) (w z : Str), ds = [.lst (lines.map D.str), .int i, .str w] ∧ lines[i]? = some z ∧ lines.length ≤ 1000 ∧ Txt.split z " " = w :: ws ∧ z.length ≤ 1300 ∧ ws.length ≤ 1000 ∧ Q (.lst (ws.map D.str)) st
theorem ar_words (ds : List D) (st : DSt) (Q : DK) (h : g_words ds st Q) : ds.length = 3 := by
  obtain ⟨_, _, _, _, _, rfl, _⟩ := h
  rfl
theorem sem_words (ds : List D) (st : DSt) (Q : DK) (h : g_words ds st Q) : F_words_behind { nx := fun _ st' => Rt st Q .non st', rt := Rt st Q } (startD 4 ds) st := by
  obtain ⟨lines, ws, i, w, z, rfl, e, few, es, lz, lw, q⟩ := h
  have st4 : startD 4 [D.lst (lines.map D.str), D.int i, D.str w] = [some (.lst (lines.map D.str)), some (.int i), some (.str w), none] := rfl
  have big : (100000 : Nat) ≤ sizeLine := by decide
  have li := (List.getElem?_eq_some_iff.mp e).1
  have a0 : atI (lines.map D.str) (i : Int) = some (.str z) := at_map e
  simp only [F_words_behind, st4]
  try dsimp only
  rw [e_seq]
  exists 2
  refine iteF' (decide_eq_false (by omega)) ?_
  try dsimp only
  rw [e_seq]
  exists 3, a0
  rw [es]
  refine ⟨by decide +kernel, by omega, ?_⟩
  have at0' : atI ((w :: ws).map D.str) 0 = some (.str w) := at0
  try dsimp only
  rw [e_seq]
  exists 3, at0'
  refine iteF' (by simp) ?_
  have ec : cutD ((w :: ws).map D.str) (some 1) none = ws.map D.str := by
    unfold cutD
    rw [HT.sIx_none]
    have z : HT.sIx ((w :: ws).map D.str).length 0 (some 1) = 1 := by
      have z := HT.sIx_nat ((w :: ws).map D.str).length 0 1
      rw [List.length_map, List.length_cons] at z ⊢
      refine z.trans ?_
      omega
    rw [z, List.map_cons, List.drop_one, List.tail_cons, List.length_cons, Nat.add_sub_cancel, List.take_length]
  exists 3, ec
  exact .inl q
end DL
--ELX
--ELO
--ELP
--ELQ
--ELR
--ELS
--ELU
namespace DL
open PySem PySem.Spec PyProof.Rows L2 LamX PySem.W SL
def g_reqStr : DRs := fun ds st Q => ∃ z : Str, ds = [.str z] ∧ Q .non st
theorem ar_reqStr (ds : List D) (st : DSt) (Q : DK) (h : g_reqStr ds st Q) : ds.length = 1 := by
  obtain ⟨_, rfl, _⟩ := h
  rfl
theorem sem_reqStr (ds : List D) (st : DSt) (Q : DK) (h : g_reqStr ds st Q) : F_require_string { nx := fun _ st' => Rt st Q .non st', rt := Rt st Q } (startD 1 ds) st := by
  obtain ⟨z, rfl, q⟩ := h
  have st1 : startD 1 [D.str z] = [some (.str z)] := rfl
  simp only [F_require_string, st1]
  exists 3
  have e : tyN st (.str z) = some "str" := rfl
  rw [e]
  simp only [e_onO]
  exact iteF' (by decide +kernel) (.inl q)
def g_sizes : DRs := fun ds st Q => ∃ (m n : Nat), ds = [.str (hdT m n)] ∧ 1 ≤ m ∧ m ≤ 16 ∧ 1 ≤ n ∧ n ≤ 16 ∧ Q (.tup [.int m, .int n]) st
theorem ar_sizes (ds : List D) (st : DSt) (Q : DK) (h : g_sizes ds st Q) : ds.length = 1 := by
  obtain ⟨_, _, rfl, _⟩ := h
  rfl
theorem sem_sizes (ds : List D) (st : DSt) (Q : DK) (h : g_sizes ds st Q) : F_sizes_in g_num { nx := fun _ st' => Rt st Q .non st', rt := Rt st Q } (startD 4 ds) st := by
  obtain ⟨m, n, rfl, m1, m16, n1, n16, q⟩ := h
  have st4 : startD 4 [D.str (hdT m n)] = [some (.str (hdT m n)), none, none, none] := rfl
  have big : (100000 : Nat) ≤ sizeLine := by decide
  simp only [F_sizes_in, st4]
  try dsimp only
  rw [e_seq]
  exists 3, hd_back
  refine ⟨by decide +kernel, by have := hdT_len (m := m) (n := n) (by omega) (by omega); omega, ?_⟩
  have a0 : atI ([(("keys" : Str)), dg m, "slots", dg n].map D.str) 0 = some (.str "keys") := rfl
  have a1 : atI ([(("keys" : Str)), dg m, "slots", dg n].map D.str) 1 = some (.str (dg m)) := rfl
  have a2 : atI ([(("keys" : Str)), dg m, "slots", dg n].map D.str) 2 = some (.str "slots") := rfl
  have a3 : atI ([(("keys" : Str)), dg m, "slots", dg n].map D.str) 3 = some (.str (dg n)) := rfl
  try dsimp only
  rw [e_seq]
  exists 3, a0, a1, a2, a3
  refine iteF' (by rfl) ?_
  refine iteF' (by decide) ?_
  refine iteF' (by decide) ?_
  try dsimp only
  rw [e_seq]
  exists 3, a0, a1, a2, a3
  refine ⟨dg m, 1, 16, rfl, by decide, ?_⟩
  rw [numO_dg (by omega) (by omega)]
  try dsimp only
  rw [e_seq]
  exists 3, a0, a1, a2, a3
  refine ⟨dg n, 1, 16, rfl, by decide, ?_⟩
  rw [numO_dg (by omega) (by omega)]
  try dsimp only
  rw [e_seq]
  exists 3
  refine iteF' rfl ?_
  refine iteF' rfl ?_
  exists 3
  exact .inl q
theorem num_row {I : DIt} {m i : Nat} {r : DEnv} {Q : List D → DSt → Prop} {st : DSt} {te : DTE} (es : I.src = none) {ks : List Int} (m16 : m ≤ 16) (h : ∀ x ∈ ks, 0 ≤ x ∧ x < (m : Int))
    (ht : ∀ (x : Int) (Q2 : DK), x ∈ ks → g_num [.str (dg x.toNat), .int 0, .int ((m : Int) - 1)] st Q2 → te (r.set i (some (.str (dg x.toNat)))) st Q2) (q : Q (ks.map D.int) st) :
    compL I (gNm i) dtYes te r Q (ks.map fun x => D.str (dg x.toNat)) [] st := by
  refine comp_noX es (fun x : Int => D.str (dg x.toNat)) D.int ks [] (fun x hx Q2 q2 => ?_) (by rw [List.nil_append]; exact q)
  obtain ⟨h0, h1⟩ := h x hx
  refine ht x Q2 hx ⟨dg x.toNat, 0, m, by rw [show ((0 : Nat) : Int) + (m : Int) - 1 = (m : Int) - 1 by omega]; rfl, by omega, ?_⟩
  rw [numO_dg (Nat.zero_le _) (by omega), show ((x.toNat : Nat) : Int) = x by omega]
  exact q2
def g_beat : DRs := fun ds st Q => ∃ (m : Nat) (r : List Int), ds = [.str (ksT "," r), .int m] ∧ m ≤ 16 ∧ r.length ≤ 16 ∧ (∀ x ∈ r, 0 ≤ x ∧ x < (m : Int)) ∧ Q (rowD r) st
theorem ar_beat (ds : List D) (st : DSt) (Q : DK) (h : g_beat ds st Q) : ds.length = 2 := by
  obtain ⟨_, _, rfl, _⟩ := h
  rfl
theorem sem_beat (ds : List D) (st : DSt) (Q : DK) (h : g_beat ds st Q) : F_beaten_in g_num { nx := fun _ st' => Rt st Q .non st', rt := Rt st Q } (startD 3 ds) st := by
  obtain ⟨m, r, rfl, m16, lr, hr, q⟩ := h
  have st3 : startD 3 [D.str (ksT "," r), D.int m] = [some (.str (ksT "," r)), some (.int m), none] := rfl
  have big : (100000 : Nat) ≤ sizeLine := by decide
  simp only [F_beaten_in, st3]
  try dsimp only
  rw [e_seq]
  exists 3
  by_cases e : r = []
  · subst e
    refine iteT' (decide_eq_true (if_pos rfl)) ?_
    exact .inl q
  · obtain ⟨nd, sp⟩ := ks_back e
    refine iteF' (decide_eq_false nd) ?_
    exists 3, sp, List.map_map
    have lk := ksT_len comma_ok.2.2 (ks := r) fun x hx => by have := hr x hx; omega
    refine ⟨by decide +kernel, by omega, by rw [List.length_map]; omega, ?_⟩
    refine num_row rfl m16 hr (fun x Q2 hx q2 => ?_) ?_
    · exists 3
      exact q2
    · show finT _ _ _
      simp only [e_finT]
      exists 3
      exact .inl q
def g_prAt : DRs := fun ds st Q => ∃ (lines : List Str) (i n : Nat) (row : List Int), ds = [.lst (lines.map D.str), .int i, .int n] ∧ lines[i]? = some (pbT row) ∧ lines.length ≤ 1000 ∧ 1 ≤ n ∧ n ≤ 16 ∧ Ord n row ∧ Q (rowD row) st
theorem ar_prAt (ds : List D) (st : DSt) (Q : DK) (h : g_prAt ds st Q) : ds.length = 3 := by
  obtain ⟨_, _, _, _, rfl, _⟩ := h
  rfl
theorem sem_prAt (ds : List D) (st : DSt) (Q : DK) (h : g_prAt ds st Q) : F_probe_order_at g_isPr g_num g_words { nx := fun _ st' => Rt st Q .non st', rt := Rt st Q } (startD 5 ds) st := by
  obtain ⟨lines, i, n, row, rfl, e, few, n1, n16, o, q⟩ := h
  have st5 : startD 5 [D.lst (lines.map D.str), D.int i, D.int n] = [some (.lst (lines.map D.str)), some (.int i), some (.int n), none, none] := rfl
  have big : (100000 : Nat) ≤ sizeLine := by decide
  have hr : ∀ x ∈ row, 0 ≤ x ∧ x < (n : Int) := fun x hx => o.mem.mp hx
  have lr := o.len
  have lp := pbT_len (row := row) fun x hx => by have := hr x hx; omega
  simp only [F_probe_order_at, st5]
  try dsimp only
  rw [e_seq]
  exists 3
  refine ⟨lines, row.map fun x => dg x.toNat, i, "probe", pbT row, rfl, e, few, pr_back row, by omega, by rw [List.length_map]; omega, ?_⟩
  have it : ∀ (xs : List D) (s : DSt), itOf s (.lst xs) = some ⟨xs, none⟩ := fun _ _ => rfl
  exists 3, it, List.map_map
  refine ⟨by rw [List.length_map]; omega, ?_⟩
  refine num_row rfl n16 hr (fun x Q2 hx q2 => ?_) ?_
  · exists 3
    exact q2
  · show finT _ _ _
    simp only [e_finT]
    exists 3
    try dsimp only
    rw [e_seq]
    exists 3
    refine ⟨n, row, rfl, o, by omega, ?_⟩
    simp only [e_onB, Bool.not_true, Bool.false_eq_true, if_false]
    exists 3
    exact .inl q
def g_tbAt : DRs := fun ds st Q => ∃ (lines : List Str) (i m : Nat) (t : List (List Int)), ds = [.lst (lines.map D.str), .int i, .int m] ∧ lines[i]? = some (btT t) ∧ lines.length ≤ 1000 ∧ m ≤ 16 ∧ Tb m t ∧ Q (rowsD t) st
theorem ar_tbAt (ds : List D) (st : DSt) (Q : DK) (h : g_tbAt ds st Q) : ds.length = 3 := by
  obtain ⟨_, _, _, _, rfl, _⟩ := h
  rfl
theorem sem_tbAt (ds : List D) (st : DSt) (Q : DK) (h : g_tbAt ds st Q) : F_table_at g_tableOk g_words g_beat { nx := fun _ st' => Rt st Q .non st', rt := Rt st Q } (startD 5 ds) st := by
  obtain ⟨lines, i, m, t, rfl, e, few, m16, tb, q⟩ := h
  have st5 : startD 5 [D.lst (lines.map D.str), D.int i, D.int m] = [some (.lst (lines.map D.str)), some (.int i), some (.int m), none, none] := rfl
  have big : (100000 : Nat) ≤ sizeLine := by decide
  have lt := tb.len
  have hr : ∀ r ∈ t, r.length ≤ 16 ∧ ∀ x ∈ r, 0 ≤ x ∧ x < (m : Int) := fun r hr => by
    obtain ⟨pw, h⟩ := tb.rows r hr
    refine ⟨?_, h⟩
    have nd : r.Nodup := pw.imp fun h => by omega
    have z := sub_len (ys := DL.R m) nd fun x hx => R_mem.mpr (h x hx)
    rw [R_length] at z
    omega
  have lb := btT_len (t := t) (k := 16) fun r h => ⟨(hr r h).1, fun x hx => by have := (hr r h).2 x hx; omega⟩
  have lb2 : (t.length + 1) * (16 * 4 + 7) ≤ 17 * 71 := Nat.mul_le_mul (by omega) (by omega)
  simp only [F_table_at, st5]
  try dsimp only
  rw [e_seq]
  exists 3
  refine ⟨lines, t.map (ksT ","), i, "beats", btT t, rfl, e, few, bt_back t, by omega, by rw [List.length_map]; omega, ?_⟩
  have it : ∀ (xs : List D) (s : DSt), itOf s (.lst xs) = some ⟨xs, none⟩ := fun _ _ => rfl
  exists 3, it, List.map_map
  refine ⟨by rw [List.length_map]; omega, ?_⟩
  refine comp_noX rfl (fun r => D.str (ksT "," r)) rowD t [] (fun r h Q2 q2 => ?_) ?_
  · exists 3
    exact ⟨m, r, rfl, m16, (hr r h).1, (hr r h).2, q2⟩
  · rw [List.nil_append]
    simp only [e_finT]
    exists 3
    try dsimp only
    rw [e_seq]
    exists 3
    refine ⟨m, t, rfl, by omega, tb, ?_⟩
    simp only [e_onB, Bool.not_true, Bool.false_eq_true, if_false]
    exists 3
    exact .inl q
theorem line_p {m n i : Nat} {P : List (List Int)} {R : List (List (List Int))} (S : Setg m n P R) (h : i < m) : (linesT m n P R)[1 + i]? = some (pbT (P.getD i [])) := by
  unfold linesT
  have lp : i < P.length := by rw [S.pl]; exact h
  rw [Nat.add_comm, List.getElem?_cons_succ, List.getElem?_append_left (by rw [List.length_map]; exact lp), List.getElem?_map, List.getD_eq_getElem?_getD, List.getElem?_eq_getElem lp]
  rfl
theorem line_t {m n j : Nat} {P : List (List Int)} {R : List (List (List Int))} (S : Setg m n P R) (h : j < n) : (linesT m n P R)[1 + m + j]? = some (btT (R.getD j [])) := by
  unfold linesT
  have lr : j < R.length := by rw [S.rl]; exact h
  rw [show 1 + m + j = (m + j) + 1 by omega, List.getElem?_cons_succ, List.getElem?_append_right (by rw [List.length_map, S.pl]; omega), List.length_map, S.pl, Nat.add_sub_cancel_left, List.getElem?_map, List.getD_eq_getElem?_getD, List.getElem?_eq_getElem lr]
  rfl
theorem range_get {α β : Type} (f : α → β) (d : α) {xs : List α} {m : Nat} (l : xs.length = m) : (List.range m).map (fun i => f (xs.getD i d)) = xs.map f := by
  subst l
  refine List.ext_getElem? fun i => ?_
  rw [List.getElem?_map, List.getElem?_map]
  by_cases h : i < xs.length
  · rw [List.getElem?_range h, List.getElem?_eq_getElem h]
    show some (f (xs.getD i d)) = some (f xs[i])
    rw [List.getD_eq_getElem?_getD, List.getElem?_eq_getElem h]
    rfl
  · rw [List.getElem?_eq_none (by rw [List.length_range]; omega), List.getElem?_eq_none (by omega)]
    rfl
def g_read : DRs := fun ds st Q => ∃ (m n : Nat) (P : List (List Int)) (R : List (List (List Int))), ds = [.str (setT m n P R)] ∧ Shw m n P R ∧ Q (.tup [rowsD P, tabsD R]) st
theorem ar_read (ds : List D) (st : DSt) (Q : DK) (h : g_read ds st Q) : ds.length = 1 := by
  obtain ⟨_, _, _, _, rfl, _⟩ := h
  rfl
theorem sem_read (ds : List D) (st : DSt) (Q : DK) (h : g_read ds st Q) : F_read_setting g_reqStr g_sizes g_prAt g_tbAt { nx := fun _ st' => Rt st Q .non st', rt := Rt st Q } (startD 7 ds) st := by
  obtain ⟨m, n, P, R, rfl, X, q⟩ := h
  have st7 : startD 7 [D.str (setT m n P R)] = [some (.str (setT m n P R)), none, none, none, none, none, none] := rfl
  have big : (100000 : Nat) ≤ sizeLine := by decide
  have m1 := X.m0
  have m16 := X.m16
  have n1 := X.n0
  have n16 := X.n16
  have lT := (setT_fit X).2
  have lL := (lines_len X).1
  simp only [F_read_setting, st7]
  try dsimp only
  rw [e_seq]
  exists 3
  refine ⟨_, rfl, ?_⟩
  exists 3
  try dsimp only
  rw [e_seq]
  exists 3, lines_back
  refine ⟨by decide +kernel, by omega, ?_⟩
  have a0 : atI ((linesT m n P R).map D.str) 0 = some (.str (hdT m n)) := at0
  try dsimp only
  rw [e_seq]
  exists 3, a0
  refine ⟨m, n, rfl, m1, m16, n1, n16, ?_⟩
  have S := X.S
  exists 3
  refine ⟨rfl, ?_⟩
  try dsimp only
  rw [e_seq]
  exists 3
  refine ⟨⟨by omega, by omega⟩, by rw [rgD_length]; omega, ?_⟩
  have e1 : rgD 1 (1 + (m : Int) - 1).toNat = (List.range m).map fun i : Nat => D.int (1 + i) := by
    unfold rgD
    rw [show (1 + (m : Int) - 1).toNat = m by omega]
  rw [e1]
  refine comp_noX rfl (fun i : Nat => D.int (1 + i)) (fun i => rowD (P.getD i [])) (List.range m) [] (fun i hi Q2 q2 => ?_) ?_
  · have him := List.mem_range.mp hi
    exists 3
    exact ⟨linesT m n P R, 1 + i, n, P.getD i [], by rw [show (((1 + i : Nat)) : Int) = 1 + (i : Int) by omega], line_p S him, by omega, n1, n16, S.po _ (by rw [List.getD_eq_getElem?_getD, List.getElem?_eq_getElem (by rw [S.pl]; exact him)]; exact List.getElem_mem _), q2⟩
  rw [List.nil_append, range_get rowD [] S.pl]
  simp only [e_finT]
  exists 3
  try dsimp only
  rw [e_seq]
  exists 3
  refine ⟨⟨by omega, by omega⟩, by rw [rgD_length]; omega, ?_⟩
  have e2 : rgD (1 + (m : Int)) (1 + (m : Int) + n - (1 + m)).toNat = (List.range n).map fun i : Nat => D.int (1 + (m : Int) + i) := by
    unfold rgD
    rw [show (1 + (m : Int) + n - (1 + m)).toNat = n by omega]
  rw [e2]
  refine comp_noX rfl (fun i : Nat => D.int (1 + (m : Int) + i)) (fun i => rowsD (R.getD i [])) (List.range n) [] (fun i hi Q2 q2 => ?_) ?_
  · have hin := List.mem_range.mp hi
    exists 3
    exact ⟨linesT m n P R, 1 + m + i, m, R.getD i [], by rw [show (((1 + m + i : Nat)) : Int) = 1 + (m : Int) + (i : Int) by omega], line_t S hin, by omega, m16, S.rt _ (by rw [List.getD_eq_getElem?_getD, List.getElem?_eq_getElem (by rw [S.rl]; exact hin)]; exact List.getElem_mem _), q2⟩
  rw [List.nil_append, range_get rowsD [] S.rl]
  simp only [e_finT]
  exists 3
  try dsimp only
  rw [e_seq]
  exists 2
  refine iteF' (decide_eq_false (by omega)) ?_
  exists 3
  exact .inl q
end DL
namespace DL
open PySem PySem.Spec PyProof.Rows L2 LamX PySem.W SL
end DL
namespace DL
open PySem PySem.Spec PyProof.Rows L2 LamX PySem.W SL
theorem lay_at {sl : List Int} {s : Nat} {x : Int} (h : sl[s]? = some x) : atI (sl.map D.int) (s : Int) = some (.int x) := atI_nat (by rw [List.getElem?_map, h]; rfl)
theorem At.d {sl : List Int} {s k : Nat} (h : At sl s k) : atI (sl.map D.int) (s : Int) = some (.int (k : Nat)) := lay_at h
section
variable {m n : Nat} {P : List (List Int)} {R : List (List (List Int))}
end
end DL
namespace DL
open PySem PySem.Spec PyProof.Rows L2 LamX PySem.W SL
structure Hist (m n : Nat) (h : List Nat) : Prop where
  nd : h.Nodup
  lt : ∀ k ∈ h, k < m
  few : h.length ≤ n
section
variable {m n : Nat} {P : List (List Int)} {R : List (List (List Int))}
end
end DL
namespace DL
open PySem PySem.Spec PyProof.Rows L2 LamX PySem.W SL
theorem dist_mod {n a : Nat} (i : Nat) : ML.dist n a (i % n) = ML.dist n a i := by unfold ML.dist; rw [Nat.mod_add_mod]
theorem isTk_iff {c : List Int} {s : Nat} (h : s < c.length) : isTk c s = true ↔ ML.tk (ML.cy c) (ML.cy (ML.flowsI c)) (s + (c.length - 1)) := by
  unfold isTk ML.tk
  rw [decide_eq_true_eq, show s + (c.length - 1) + 1 = s + c.length by omega, ML.cy_per, ML.cy_lt h]
structure More (c : List Int) (a L : Nat) : Prop where
  hc : Cnt c
  ha : a < c.length
  lt : ML.sumL c < c.length
  pas : ML.Passed c.length a L (ML.cy c) (ML.cy (ML.flowsI c))
def plus (c : List Int) (a : Nat) : List Int := c.set a (c.getD a 0 + 1)
theorem plus_length (c : List Int) (a : Nat) : (plus c a).length = c.length := by unfold plus; rw [List.length_set]
theorem plus_cnt {c : List Int} {a : Nat} (h : Cnt c) (ha : a < c.length) (lt : ML.sumL c < c.length) : Cnt (plus c a) := by
  refine ⟨fun z => ?_, by rw [plus_length]; exact h.few, fun x hx => ?_, ?_⟩
  · have := plus_length c a
    rw [z] at this
    exact h.ne (List.length_eq_zero_iff.mp this.symm)
  · unfold plus at hx
    rcases List.mem_or_eq_of_mem_set hx with w | w
    · exact h.nn x w
    · have := h.nn _ (getD_mem ha)
      omega
  · rw [plus_length]
    unfold plus
    rw [sum_set ha]
    omega
theorem plus_cy {c : List Int} {a : Nat} (ha : a < c.length) (i : Nat) : ML.cy (plus c a) i = ML.addC c.length a (ML.cy c) i := by
  have n0 : 0 < c.length := by omega
  unfold ML.addC
  have lm := Nat.mod_lt i n0
  have dz : ML.dist c.length a i = 0 ↔ i % c.length = a := by rw [← dist_mod i]; exact ML.dist_zero ha lm
  unfold ML.cy
  rw [plus_length]
  unfold plus
  by_cases e : i % c.length = a
  · rw [if_pos (dz.mpr e), e, List.getD_eq_getElem?_getD, List.getElem?_set_self ha]
    rfl
  · rw [if_neg (fun z => e (dz.mp z)), List.getD_eq_getElem?_getD, List.getElem?_set_ne (fun z => e z.symm), ← List.getD_eq_getElem?_getD]
    omega
def addL (F : List Int) (a t : Nat) : List Int := (List.range F.length).map fun s => F.getD s 0 + if ML.dist F.length a s < t then 1 else 0
theorem addL_length (F : List Int) (a t : Nat) : (addL F a t).length = F.length := by unfold addL; rw [List.length_map, List.length_range]
theorem addL_at {F : List Int} {a t s : Nat} (h : s < F.length) : (addL F a t).getD s 0 = F.getD s 0 + if ML.dist F.length a s < t then 1 else 0 := by
  unfold addL
  rw [List.getD_eq_getElem?_getD, List.getElem?_map, List.getElem?_eq_getElem (by rw [List.length_range]; exact h), List.getElem_range]
  rfl
theorem getD_ext {xs ys : List Int} (l : xs.length = ys.length) (h : ∀ i, i < xs.length → xs.getD i 0 = ys.getD i 0) : xs = ys := by
  refine List.ext_getElem l fun i h1 h2 => ?_
  have e := h i h1
  rw [List.getD_eq_getElem?_getD, List.getElem?_eq_getElem h1, List.getD_eq_getElem?_getD, List.getElem?_eq_getElem h2] at e
  simpa using e
theorem More.flows {c : List Int} {a L : Nat} (m : More c a L) : ML.flowsI (plus c a) = addL (ML.flowsI c) a L := by
  have n0 : 0 < c.length := m.hc.pos
  have lf := ML.flowsI_length c
  have cn := plus_cnt m.hc m.ha m.lt
  have c0 : ∀ i, 0 ≤ ML.cy c i := fun i => m.hc.nn _ (getD_mem (Nat.mod_lt _ n0))
  have F1 := m.hc.flow.more c0 m.pas
  have F2 := cn.flow
  rw [plus_length] at F2
  have F2' : ML.Flow c.length (ML.addC c.length a (ML.cy c)) (ML.cy (ML.flowsI (plus c a))) := ⟨F2.per, F2.nn, fun i => by rw [F2.rec_, plus_cy m.ha], F2.zero⟩
  refine getD_ext (by rw [ML.flowsI_length, plus_length, addL_length, lf]) fun i hi => ?_
  rw [ML.flowsI_length, plus_length] at hi
  have e := F2'.one F1 n0 i
  rw [ML.cy_lt (by rw [ML.flowsI_length, plus_length]; exact hi)] at e
  rw [e, addL_at (by rw [lf]; exact hi), lf]
  unfold ML.addF
  rw [ML.cy_lt (by rw [lf]; exact hi)]
theorem More.tk {c : List Int} {a L : Nat} (m : More c a L) {s : Nat} (h : s < c.length) : isTk (plus c a) s = true ↔ isTk c s = true ∨ s = (a + L) % c.length := by
  have n0 : 0 < c.length := m.hc.pos
  have c0 : ∀ i, 0 ≤ ML.cy c i := fun i => m.hc.nn _ (getD_mem (Nat.mod_lt _ n0))
  have z := ML.tk_more m.hc.flow c0 m.pas (s + (c.length - 1))
  rw [isTk_iff (by rw [plus_length]; exact h), isTk_iff h, plus_length]
  have e1 : ML.tk (ML.cy (plus c a)) (ML.cy (ML.flowsI (plus c a))) (s + (c.length - 1)) ↔ ML.tk (ML.addC c.length a (ML.cy c)) (ML.addF c.length a L (ML.cy (ML.flowsI c))) (s + (c.length - 1)) := by
    unfold ML.tk
    rw [plus_cy m.ha]
    have cn := plus_cnt m.hc m.ha m.lt
    have F2 := cn.flow
    rw [plus_length] at F2
    have F2' : ML.Flow c.length (ML.addC c.length a (ML.cy c)) (ML.cy (ML.flowsI (plus c a))) := ⟨F2.per, F2.nn, fun i => by rw [F2.rec_, plus_cy m.ha], F2.zero⟩
    rw [F2'.one (m.hc.flow.more c0 m.pas) n0]
  rw [e1, z, show s + (c.length - 1) + 1 = s + c.length by omega, ML.dist_per, ML.dist_eq m.ha h m.pas.lt]
theorem More.yes {c : List Int} {a L t : Nat} (m : More c a L) (h : t < L) : isTk c ((a + t) % c.length) = true := by
  have n0 : 0 < c.length := m.hc.pos
  have lm := Nat.mod_lt (a + t) n0
  rw [isTk_iff lm]
  refine m.pas.yes _ ?_
  have ll := m.pas.lt
  rw [show (a + t) % c.length + (c.length - 1) + 1 = (a + t) % c.length + c.length by omega, ML.dist_per, (ML.dist_eq m.ha lm (by omega)).mpr rfl]
  exact h
theorem More.no {c : List Int} {a L : Nat} (m : More c a L) : isTk c ((a + L) % c.length) = false := by
  have n0 : 0 < c.length := m.hc.pos
  have lm := Nat.mod_lt (a + L) n0
  have z : ¬ isTk c ((a + L) % c.length) = true := by
    rw [isTk_iff lm]
    refine m.pas.no _ ?_
    rw [show (a + L) % c.length + (c.length - 1) + 1 = (a + L) % c.length + c.length by omega, ML.dist_per, (ML.dist_eq m.ha lm m.pas.lt).mpr rfl]
  cases h : isTk c ((a + L) % c.length) with
  | true => exact absurd h z
  | false => rfl
structure Full (c : List Int) (kvs : List (Key × D)) : Prop where
  ex : ∃ ks : List Int, kvs.map (·.1) = ks.map Sum.inl ∧ ks.Nodup ∧ ∀ x, x ∈ ks ↔ x ∈ takenI c
theorem takenI_mem {c : List Int} {x : Int} : x ∈ takenI c ↔ ∃ s : Nat, x = s ∧ s < c.length ∧ isTk c s = true := by
  unfold takenI
  rw [List.mem_map]
  constructor
  · rintro ⟨s, hs, rfl⟩
    obtain ⟨h1, h2⟩ := List.mem_filter.mp hs
    exact ⟨s, rfl, List.mem_range.mp h1, h2⟩
  · rintro ⟨s, rfl, h1, h2⟩
    exact ⟨s, List.mem_filter.mpr ⟨List.mem_range.mpr h1, h2⟩, rfl⟩
theorem takenI_at {c : List Int} {s : Nat} (h : s < c.length) : (s : Int) ∈ takenI c ↔ isTk c s = true := by
  rw [takenI_mem]
  constructor
  · rintro ⟨k, e, _, h2⟩
    have : s = k := by omega
    subst this
    exact h2
  · exact fun h2 => ⟨s, rfl, h, h2⟩
theorem valD_some {κ : Type} [DecidableEq κ] {kvs : List (κ × D)} {k : κ} : (valD kvs k).isSome = true ↔ k ∈ kvs.map (·.1) := by
  unfold valD
  rw [Option.isSome_map, List.find?_isSome]
  constructor
  · rintro ⟨p, hp, e⟩
    exact List.mem_map.mpr ⟨p, hp, of_decide_eq_true e⟩
  · intro h
    obtain ⟨p, hp, e⟩ := List.mem_map.mp h
    exact ⟨p, hp, decide_eq_true e⟩
theorem Full.at_ {c : List Int} {kvs : List (Key × D)} (f : Full c kvs) {s : Nat} (h : s < c.length) : (valD kvs (.inl (s : Int))).isSome = isTk c s := by
  obtain ⟨ks, e, nd, m⟩ := f.ex
  rw [Bool.eq_iff_iff, valD_some, e]
  rw [← takenI_at h, ← m]
  constructor
  · intro z
    obtain ⟨x, hx, e⟩ := List.mem_map.mp z
    cases e
    exact hx
  · exact fun z => List.mem_map.mpr ⟨_, z, rfl⟩
theorem putD_new {κ : Type} [DecidableEq κ] {kvs : List (κ × D)} {k : κ} {v : D} (h : (valD kvs k).isSome = false) : putD kvs k v = kvs ++ [(k, v)] := by
  unfold putD
  rw [if_neg]
  intro z
  obtain ⟨p, hp, e⟩ := List.any_eq_true.mp z
  have := valD_some.mpr (List.mem_map.mpr ⟨p, hp, of_decide_eq_true e⟩)
  rw [h] at this
  cases this
theorem Full.more {c : List Int} {a L : Nat} {kvs : List (Key × D)} {v : D} (f : Full c kvs) (m : More c a L) : Full (plus c a) (putD kvs (.inl (((a + L) % c.length : Nat) : Int)) v) := by
  have n0 : 0 < c.length := m.hc.pos
  have lm := Nat.mod_lt (a + L) n0
  have no := m.no
  rw [putD_new (by rw [f.at_ lm]; exact no)]
  obtain ⟨ks, e, nd, mm⟩ := f.ex
  have ni : (((a + L) % c.length : Nat) : Int) ∉ ks := fun z => by
    have := (takenI_at lm).mp ((mm _).mp z)
    rw [no] at this
    cases this
  refine ⟨ks ++ [(((a + L) % c.length : Nat) : Int)], by rw [List.map_append, List.map_append, e]; rfl, ?_, fun x => ?_⟩
  · rw [List.nodup_append]
    refine ⟨nd, by simp, fun y hy z hz => ?_⟩
    rw [List.mem_singleton.mp hz]
    exact fun w => ni (w ▸ hy)
  · rw [List.mem_append, List.mem_singleton, mm, takenI_mem, takenI_mem, plus_length]
    constructor
    · rintro (⟨s, rfl, h1, h2⟩ | rfl)
      · exact ⟨s, rfl, h1, (m.tk h1).mpr (.inl h2)⟩
      · exact ⟨_, rfl, lm, (m.tk lm).mpr (.inr rfl)⟩
    · rintro ⟨s, rfl, h1, h2⟩
      rcases (m.tk h1).mp h2 with z | z
      · exact .inl ⟨s, rfl, h1, z⟩
      · rw [z]; exact .inr rfl
structure Upto (c : List Int) (i j : Nat) (cc : List Int) : Prop where
  len : cc.length = c.length
  at_ : ∀ s, s < c.length → cc.getD s 0 = if s < i then c.getD s 0 else if s = i then (j : Int) else 0
theorem Upto.next {c cc : List Int} {i : Nat} (h : Upto c i (c.getD i 0).toNat cc) (nn : ∀ x ∈ c, 0 ≤ x) (hi : i < c.length) : Upto c (i + 1) 0 cc := by
  refine ⟨h.len, fun s hs => ?_⟩
  rw [h.at_ s hs]
  have z := nn _ (getD_mem hi)
  rcases Nat.lt_trichotomy s i with q | q | q
  · rw [if_pos q, if_pos (by omega)]
  · subst q
    rw [if_neg (Nat.lt_irrefl _), if_pos rfl, if_pos (by omega), Int.toNat_of_nonneg z]
  · rw [if_neg (by omega), if_neg (by omega), if_neg (by omega)]
    split <;> rfl
theorem Upto.plus {c cc : List Int} {i j : Nat} (h : Upto c i j cc) (hi : i < c.length) : Upto c i (j + 1) (plus cc i) := by
  have li : i < cc.length := by rw [h.len]; exact hi
  refine ⟨by rw [plus_length, h.len], fun s hs => ?_⟩
  unfold DL.plus
  by_cases e : s = i
  · subst e
    rw [List.getD_eq_getElem?_getD, List.getElem?_set_self li, if_neg (Nat.lt_irrefl _), if_pos rfl]
    show cc.getD s 0 + 1 = _
    rw [h.at_ s hs, if_neg (Nat.lt_irrefl _), if_pos rfl]
    omega
  · rw [List.getD_eq_getElem?_getD, List.getElem?_set_ne (fun z => e z.symm), ← List.getD_eq_getElem?_getD, h.at_ s hs, if_neg e, if_neg e]
theorem Upto.le {c cc : List Int} {i j : Nat} (h : Upto c i j cc) (nn : ∀ x ∈ c, 0 ≤ x) (hj : i < c.length → (j : Int) ≤ c.getD i 0) : ML.sumL cc ≤ ML.sumL c := by
  rw [ML.sumL_N, ML.sumL_N, h.len]
  refine ML.sumN_le fun s hs => ?_
  rw [h.at_ s hs]
  split
  · exact Int.le_refl _
  · split
    · rename_i e; subst e; exact hj hs
    · exact nn _ (getD_mem hs)
theorem Upto.lt {c cc : List Int} {i j : Nat} (h : Upto c i j cc) (nn : ∀ x ∈ c, 0 ≤ x) (hi : i < c.length) (hj : (j : Int) < c.getD i 0) : ML.sumL cc < ML.sumL c := by
  have z := (h.plus hi).le nn fun _ => by omega
  unfold DL.plus at z
  rw [sum_set (by rw [h.len]; exact hi)] at z
  omega
theorem Upto.nn {c cc : List Int} {i j : Nat} (h : Upto c i j cc) (nn : ∀ x ∈ c, 0 ≤ x) : ∀ x ∈ cc, 0 ≤ x := by
  intro x hx
  obtain ⟨s, hs⟩ := List.mem_iff_getElem?.mp hx
  have ls := (List.getElem?_eq_some_iff.mp hs).1
  rw [h.len] at ls
  have e := h.at_ s ls
  rw [List.getD_eq_getElem?_getD, hs] at e
  have e' : x = _ := e
  rw [e']
  split
  · exact nn _ (getD_mem ls)
  · split <;> omega
theorem Upto.cnt {c cc : List Int} {i j : Nat} (h : Upto c i j cc) (hc : Cnt c) (hj : i < c.length → (j : Int) ≤ c.getD i 0) : Cnt cc := by
  refine ⟨fun z => ?_, by rw [h.len]; exact hc.few, h.nn hc.nn, ?_⟩
  · have := h.len
    rw [z] at this
    exact hc.ne (List.length_eq_zero_iff.mp this.symm)
  · rw [h.len]
    exact Int.le_trans (h.le hc.nn hj) hc.room
theorem Upto.all {c cc : List Int} {j : Nat} (h : Upto c c.length j cc) : cc = c := getD_ext h.len fun s hs => by
  rw [h.len] at hs
  rw [h.at_ s hs, if_pos hs]
end DL
namespace DL
open PySem PySem.Spec PyProof.Rows L2 LamX PySem.W SL
end DL
namespace ML
theorem Flow.bound {n : Nat} {c f : Nat → Int} (F : Flow n c f) (c0 : ∀ i, 0 ≤ c i) (cp : ∀ i, c (i + n) = c i) (n0 : 0 < n) (i : Nat) : f i ≤ sumN n c := by
  obtain ⟨z, hz⟩ := F.zero
  have up : ∀ k, f (z + k) ≤ sumN k (fun j => c (j + (z + 1))) := by
    intro k
    induction k with
    | zero => show f z ≤ 0; omega
    | succ k ih =>
      show f (z + (k + 1)) ≤ sumN k (fun j => c (j + (z + 1))) + c (k + (z + 1))
      have e := F.rec_ (z + k)
      have c1 := c0 (z + k + 1)
      have f1 := F.nn (z + k)
      rw [show z + (k + 1) = z + k + 1 by omega, e, show k + (z + 1) = z + k + 1 by omega]
      unfold step
      split <;> omega
  have mono : ∀ b a, a ≤ b → sumN a (fun j => c (j + (z + 1))) ≤ sumN b (fun j => c (j + (z + 1))) := by
    intro b
    induction b with
    | zero => intro a h; rw [Nat.le_zero.mp h]; exact Int.le_refl _
    | succ b ih =>
      intro a h
      rcases Nat.lt_or_ge a (b + 1) with q | q
      · have h1 := ih a (by omega)
        have h2 := c0 (b + (z + 1))
        show _ ≤ sumN b (fun j => c (j + (z + 1))) + c (b + (z + 1))
        omega
      · rw [show a = b + 1 by omega]; exact Int.le_refl _
  have e : i + n * (z + 1) = z + (i + n * (z + 1) - z) := by
    have : z + 1 ≤ n * (z + 1) := Nat.le_mul_of_pos_left _ n0
    omega
  -- the rest below n
  have key : ∀ k, f (z + k % n) = f (z + k) := fun k => by
    have := per_mul F.per (z + k % n) (k / n)
    rw [Nat.add_assoc, Nat.mod_add_div] at this
    exact this.symm
  rw [← per_mul F.per i (z + 1), e, ← key]
  refine Int.le_trans (up _) (Int.le_trans (mono n _ (Nat.le_of_lt (Nat.mod_lt _ n0))) ?_)
  rw [sumN_shifts cp]
  exact Int.le_refl _
end ML
namespace DL
open PySem PySem.Spec PyProof.Rows L2 LamX PySem.W SL
theorem Cnt.c0 {c : List Int} (h : Cnt c) (i : Nat) : 0 ≤ ML.cy c i := h.nn _ (getD_mem (Nat.mod_lt _ h.pos))
theorem Cnt.fl {c : List Int} (h : Cnt c) : ∀ x ∈ ML.flowsI c, 0 ≤ x ∧ x ≤ c.length := by
  intro x hx
  obtain ⟨i, hi⟩ := List.mem_iff_getElem?.mp hx
  have li := (List.getElem?_eq_some_iff.mp hi).1
  have e : ML.cy (ML.flowsI c) i = x := by rw [ML.cy_lt li, List.getD_eq_getElem?_getD, hi]; rfl
  have b := h.flow.bound h.c0 (ML.cy_per c) h.pos i
  have n := h.flow.nn i
  rw [e] at b n
  rw [← ML.sumL_cy] at b
  have := h.room
  omega
theorem Cnt.sm {c : List Int} (h : Cnt c) (l : c.length ≤ 64) : Sm 1 1411 (rowD c) :=
  sm_row (m := 64) (fun x hx => by have := h.nn x hx; have := h.le hx; omega) l
theorem Cnt.step {c : List Int} (h : Cnt c) {i : Nat} (hi : i < c.length) : (ML.flowsI c).getD i 0 = ML.step (ML.cy (ML.flowsI c) (i + (c.length - 1))) (c.getD i 0) := by
  have z := h.flow.rec_ (i + (c.length - 1))
  rw [show i + (c.length - 1) + 1 = i + c.length by omega, h.flow.per, ML.cy_per, ML.cy_lt hi, ML.cy_lt (by rw [ML.flowsI_length]; exact hi)] at z
  exact z
end DL
namespace DL
open PySem PySem.Spec PyProof.Rows L2 LamX PySem.W SL
theorem takenI_asc (c : List Int) : (takenI c).Pairwise (· < ·) := by
  unfold takenI
  refine List.Pairwise.map _ (fun a b h => ?_) (List.Pairwise.filter _ List.pairwise_lt_range)
  omega
theorem sorted_lt_le {xs : List Int} (h : xs.Pairwise (· < ·)) : xs.Pairwise (· ≤ ·) := h.imp fun h => Int.le_of_lt h
theorem Full.sorted {c : List Int} {kvs : List (Key × D)} (f : Full c kvs) : ∃ ks : List Int, kvs.map (·.1) = ks.map Sum.inl ∧ ∀ out : List Int, out.Perm ks → out.Pairwise (· ≤ ·) → out = takenI c := by
  obtain ⟨ks, e, nd, m⟩ := f.ex
  refine ⟨ks, e, fun out p so => sorted_one (p.trans ?_) so (sorted_lt_le (takenI_asc c))⟩
  exact (List.perm_ext_iff_of_nodup nd (asc_nodup (takenI_asc c))).mpr m
theorem sum_addL {F : List Int} {a L : Nat} (ha : a < F.length) (hL : L ≤ F.length) : ML.sumL (addL F a L) = ML.sumL F + L := by
  rw [ML.sumL_N, addL_length, ML.sumL_N]
  have e : ML.sumN F.length (fun i => (addL F a L).getD i 0) = ML.sumN F.length (ML.addF F.length a L fun i => F.getD i 0) := ML.sumN_congr fun i h => by rw [addL_at h]; rfl
  rw [e, ML.sum_addF ha hL]
theorem More.sum {c : List Int} {a L : Nat} (m : More c a L) : ML.sumL (ML.flowsI (plus c a)) = ML.sumL (ML.flowsI c) + L := by
  have lF := ML.flowsI_length c
  rw [m.flows, sum_addL (by rw [lF]; exact m.ha) (by rw [lF]; exact Nat.le_of_lt m.pas.lt)]
end DL
namespace DL
open PySem PySem.Spec PyProof.Rows L2 LamX PySem.W SL
end DL
namespace ML
def sq (i : Nat) : Int := (i : Int) * i
structure Pl (n : Nat) (o : Nat → Prop) (h d : Nat → Nat) : Prop where
  home : ∀ s, s < n → o s → h s < n
  far : ∀ s, s < n → o s → d s < n ∧ (h s + d s) % n = s
variable {n : Nat} {o : Nat → Prop} [DecidablePred o] {h d : Nat → Nat}
def ev (n : Nat) (o : Nat → Prop) [DecidablePred o] (h d : Nat → Nat) (u j s : Nat) : Int := if o s ∧ dist n (h s) u + j < d s then 1 else 0
end ML
namespace DL
open PySem PySem.Spec PyProof.Rows L2 LamX PySem.W SL
def hm (hs : List Nat) (k : Nat) : Nat := hs.getD k 0
def lineP (n : Nat) (hs : List Nat) : List (List Int) := hs.map fun h : Nat => lineI n (h : Int)
structure Lin (m n : Nat) (hs : List Nat) (P : List (List Int)) (R : List (List (List Int))) : Prop where
  s : Setg m n P R
  len : hs.length = m
  lt : ∀ h ∈ hs, h < n
  p : P = lineP n hs
  n0 : 0 < n
section
variable {m n : Nat} {hs : List Nat} {P : List (List Int)} {R : List (List (List Int))}
theorem Lin.hm_lt (S : Lin m n hs P R) {k : Nat} (hk : k < m) : hm hs k < n := S.lt _ (getD_memL (by rw [S.len]; exact hk))
theorem Lin.pr (S : Lin m n hs P R) {a i : Nat} (ha : a < m) (hi : i < n) : DL.pr P a i = (hm hs a + i) % n := by
  have e : P.getD a [] = lineI n ((hm hs a : Nat) : Int) := by
    rw [S.p]
    unfold lineP hm
    rw [List.getD_eq_getElem?_getD, List.getD_eq_getElem?_getD, List.getElem?_map, List.getElem?_eq_getElem (by rw [S.len]; exact ha)]
    rfl
  unfold DL.pr
  rw [e]
  unfold lineI
  rw [List.getD_eq_getElem?_getD, List.getElem?_map, List.getElem?_range hi]
  show ((((hm hs a : Nat) : Int) + ((i : Nat) : Int)) % (n : Int)).toNat = _
  rw [← Int.natCast_add, ← Int.natCast_emod]
  rfl
theorem Lin.rk (S : Lin m n hs P R) {a s : Nat} (ha : a < m) (hs' : s < n) : DL.rk P a s = ML.dist n (hm hs a) s := by
  have h1 := S.hm_lt ha
  have l := ML.dist_lt (n := n) (a := hm hs a) (i := s) S.n0
  have e := S.pr ha l
  have z := (ML.dist_eq (n := n) h1 hs' l).mp rfl
  rw [← z] at e
  have w := S.s.rk_pr ha l
  rw [e] at w
  exact w
def one (b : Bool) : Int := if b then 1 else 0
theorem At.getD {sl : List Int} {s k : Nat} (h : At sl s k) : sl.getD s (-1) = (k : Int) := by
  unfold At at h
  rw [List.getD_eq_getElem?_getD, h]
  rfl
structure FE (n : Nat) (sl : List Int) (x t : Nat) : Prop where
  lt : t < n
  tk : ∀ j, j < t → ∃ k, At sl ((x + j) % n) k
  free : sl[(x + t) % n]? = some (-1)
theorem FE.next {sl : List Int} {x t a : Nat} (F : FE n sl x (t + 1)) (hx : x < n) (l : sl.length = n) : FE n (sl.set x (a : Int)) ((x + 1) % n) t ∧ FE n sl ((x + 1) % n) t := by
  have lt := F.lt
  have e : ∀ j, ((x + 1) % n + j) % n = (x + (j + 1)) % n := fun j => by rw [Nat.mod_add_mod, show x + 1 + j = x + (j + 1) by omega]
  refine ⟨⟨by omega, fun j hj => ?_, ?_⟩, ⟨by omega, fun j hj => ?_, ?_⟩⟩
  · rw [e]
    obtain ⟨k, hk⟩ := F.tk (j + 1) (by omega)
    exact taken_set (by omega) hk
  · rw [e, List.getElem?_set_ne]
    · exact F.free
    · intro z
      by_cases q : x + (t + 1) < n
      · rw [Nat.mod_eq_of_lt q] at z
        omega
      · rw [show x + (t + 1) = (x + (t + 1) - n) + n by omega, Nat.add_mod_right, Nat.mod_eq_of_lt (by omega)] at z
        omega
  · rw [e]
    exact F.tk (j + 1) (by omega)
  · rw [e]
    exact F.free
end
end DL
namespace DL
open PySem PySem.Spec PyProof.Rows L2 LamX PySem.W SL
end DL
namespace DL
open PySem PySem.Spec PyProof.Rows L2 LamX PySem.W SL
theorem cutH (xs : List D) (k : Nat) : cutD xs none (some (k : Int)) = xs.take k := by
  unfold cutD
  have z : HT.sIx xs.length xs.length (some (k : Int)) = min k xs.length := HT.sIx_nat xs.length xs.length k
  rw [z, HT.sIx_none, List.drop_zero, Nat.sub_zero]
  rcases Nat.le_total k xs.length with h | h
  · rw [Nat.min_eq_left h]
  · rw [Nat.min_eq_right h, List.take_length, List.take_of_length_le h]
theorem clos_rows (n : Nat) : ∀ P : List (List Int), clos n (P.map rowD) = true
  | [] => rfl
  | x :: r => by
    rw [List.map_cons]
    show (clo n (rowD x) && clos n (r.map rowD)) = true
    rw [clos_rows n r, Bool.and_true]
    simp only [rowD, clo]
    exact clos_ints n x
end DL
namespace DL
open PySem PySem.Spec PyProof.Rows L2 LamX PySem.W SL
end DL
namespace DL
open PySem PySem.Spec PyProof.Rows L2 LamX PySem.W SL
end DL
namespace DL
open PySem PySem.Spec PyProof.Rows L2 LamX PySem.W SL
theorem sumL_range (m : Nat) (g : Nat → Int) : ML.sumL ((List.range m).map g) = ML.sumN m g := by
  induction m with
  | zero => rfl
  | succ m ih =>
    rw [List.range_succ, List.map_append, ML.sumL_append, ih]
    show _ + (g m + 0) = _ + g m
    omega
theorem sumL_flat {α : Type} (l : List α) (f : α → List Int) : ML.sumL (l.flatMap f) = ML.sumL (l.map fun x => ML.sumL (f x)) := by
  induction l with
  | nil => rfl
  | cons x r ih =>
    rw [List.flatMap_cons, ML.sumL_append, ih]
    rfl
theorem sumN_more {m m' : Nat} {g h : Nat → Int} (le : m ≤ m') (gh : ∀ i, i < m → g i ≤ h i) (h0 : ∀ i, 0 ≤ h i) : ML.sumN m g ≤ ML.sumN m' h := by
  induction m' with
  | zero => rw [Nat.le_zero.mp le]; exact Int.le_refl _
  | succ k ih =>
    show ML.sumN m g ≤ ML.sumN k h + h k
    rcases Nat.lt_or_ge m (k + 1) with q | q
    · have := ih (by omega)
      have := h0 k
      omega
    · have e : m = k + 1 := by omega
      subst e
      show ML.sumN k g + g k ≤ _
      have := ML.sumN_le (n := k) fun i hi => gh i (by omega)
      have := gh k (by omega)
      omega
theorem sqSum_waits (c : List Int) : sqSum (waitsI c) = ML.sumN c.length fun s => ML.sumN (c.getD s 0).toNat fun k => (ML.cy (ML.flowsI c) (s + (c.length - 1)) + (k : Int)) * (ML.cy (ML.flowsI c) (s + (c.length - 1)) + (k : Int)) := by
  unfold sqSum waitsI
  rw [List.map_flatMap, sumL_flat, sumL_range]
  refine ML.sumN_congr fun s _ => ?_
  rw [List.map_map, ← sumL_range]
  rfl
theorem sq_mono {a b : Int} (h0 : 0 ≤ a) (h : a ≤ b) : a * a ≤ b * b := Int.mul_le_mul h h h0 (Int.le_trans h0 h)
theorem More.flow_le {c : List Int} {a L : Nat} (m : More c a L) (i : Nat) : ML.cy (ML.flowsI c) i ≤ ML.cy (ML.flowsI (plus c a)) i := by
  have lF := ML.flowsI_length c
  have n0 := m.hc.pos
  unfold ML.cy
  rw [m.flows, addL_length, lF]
  have lm := Nat.mod_lt i n0
  rw [addL_at (by rw [lF]; exact lm)]
  split <;> omega
theorem plus_ge {c : List Int} {a : Nat} (ha : a < c.length) {s : Nat} (hs : s < c.length) : c.getD s 0 ≤ (plus c a).getD s 0 := by
  unfold plus
  by_cases e : s = a
  · subst e
    rw [List.getD_eq_getElem?_getD (l := c.set s _), List.getElem?_set_self hs]
    show _ ≤ c.getD s 0 + 1
    omega
  · rw [List.getD_eq_getElem?_getD (l := c.set a _), List.getElem?_set_ne (fun z => e z.symm), ← List.getD_eq_getElem?_getD]
    exact Int.le_refl _
theorem More.sq {c : List Int} {a L : Nat} (m : More c a L) : sqSum (waitsI c) ≤ sqSum (waitsI (plus c a)) := by
  rw [sqSum_waits, sqSum_waits, plus_length]
  refine ML.sumN_le fun s hs => ?_
  have pg := plus_ge m.ha hs
  refine sumN_more (by omega) (fun k _ => sq_mono ?_ ?_) fun k => ?_
  · have := m.hc.flow.nn (s + (c.length - 1)); omega
  · have := m.flow_le (s + (c.length - 1)); omega
  · have f0 := (plus_cnt m.hc m.ha m.lt).flow.nn (s + (c.length - 1))
    exact Int.mul_nonneg (by omega) (by omega)
end DL
namespace DL
open PySem PySem.Spec PyProof.Rows L2 LamX PySem.W SL
def Dn (a b x y : Nat) : Prop := x < y ∧ (x < a ∨ (x = a ∧ y < b))
structure Half (m a b : Nat) (rs : List (List Int)) : Prop where
  len : rs.length = m
  nd : ∀ x, x < m → (rs.getD x []).Nodup
  inr : ∀ x, x < m → ∀ z ∈ rs.getD x [], ∃ y : Nat, y < m ∧ z = (y : Int) ∧ (Dn a b x y ∨ Dn a b y x)
  one : ∀ x y, x < m → y < m → Dn a b x y → ((y : Int) ∈ rs.getD x [] ↔ ¬ (x : Int) ∈ rs.getD y [])
theorem Half.congr {m a b c d : Nat} {rs : List (List Int)} (h : Half m a b rs) (e : ∀ x y, x < m → y < m → (Dn a b x y ↔ Dn c d x y)) : Half m c d rs :=
  ⟨h.len, h.nd, fun x hx z hz => by
    obtain ⟨y, hy, ez, q⟩ := h.inr x hx z hz
    exact ⟨y, hy, ez, q.imp (e x y hx hy).mp (e y x hy hx).mp⟩, fun x y hx hy q => h.one x y hx hy ((e x y hx hy).mpr q)⟩
theorem Half.start (m : Nat) : Half m 0 0 (List.replicate m []) := by
  have z : ∀ x, (List.replicate m ([] : List Int)).getD x [] = [] := fun x => by
    rw [List.getD_eq_getElem?_getD, List.getElem?_replicate]
    split <;> rfl
  refine ⟨by simp, fun x hx => by rw [z]; exact List.nodup_nil, fun x hx y hy => ?_, fun x y hx hy q => ?_⟩
  · rw [z] at hy
    cases hy
  · unfold Dn at q
    omega
theorem mem_setD {rs : List (List Int)} {u x : Nat} {v z : Int} (h : u < rs.length) : z ∈ (rs.set u (rs.getD u [] ++ [v])).getD x [] ↔ z ∈ rs.getD x [] ∨ (x = u ∧ z = v) := by
  by_cases e : x = u
  · subst e
    rw [List.getD_eq_getElem?_getD (l := rs.set _ _), List.getElem?_set_self h]
    show z ∈ rs.getD x [] ++ [v] ↔ _
    rw [List.mem_append, List.mem_singleton]
    simp
  · rw [List.getD_eq_getElem?_getD (l := rs.set _ _), List.getElem?_set_ne (fun w => e w.symm), ← List.getD_eq_getElem?_getD]
    simp [e]
theorem Half.step {m a b u v : Nat} {rs : List (List Int)} (h : Half m a b rs) (ab : a < b) (hb : b < m) (uv : (u = a ∧ v = b) ∨ (u = b ∧ v = a)) : Half m a (b + 1) (rs.set u (rs.getD u [] ++ [(v : Int)])) := by
  have hu : u < rs.length := by rw [h.len]; omega
  have nv : ¬ (v : Int) ∈ rs.getD u [] := fun z => by
    obtain ⟨y, hy, ez, q⟩ := h.inr u (by omega) _ z
    unfold Dn at q
    omega
  have nu : ¬ (u : Int) ∈ rs.getD v [] := fun z => by
    obtain ⟨y, hy, ez, q⟩ := h.inr v (by omega) _ z
    unfold Dn at q
    omega
  refine ⟨by rw [List.length_set]; exact h.len, fun x hx => ?_, fun x hx z hz => ?_, fun x y hx hy q => ?_⟩
  · by_cases e : x = u
    · subst e
      rw [List.getD_eq_getElem?_getD (l := rs.set _ _), List.getElem?_set_self hu]
      show (rs.getD x [] ++ [(v : Int)]).Nodup
      rw [List.nodup_append]
      refine ⟨h.nd x hx, by simp, fun a ha b hb => ?_⟩
      rw [List.mem_singleton.mp hb]
      rintro rfl
      exact nv ha
    · rw [List.getD_eq_getElem?_getD (l := rs.set _ _), List.getElem?_set_ne (fun w => e w.symm), ← List.getD_eq_getElem?_getD]
      exact h.nd x hx
  · rcases (mem_setD hu).mp hz with q | ⟨e1, e2⟩
    · obtain ⟨y, hy, ez, q⟩ := h.inr x hx z q
      refine ⟨y, hy, ez, ?_⟩
      unfold Dn at q ⊢
      omega
    · refine ⟨v, by omega, e2, ?_⟩
      unfold Dn
      omega
  · rw [mem_setD hu, mem_setD hu]
    by_cases e : x = a ∧ y = b
    · obtain ⟨rfl, rfl⟩ := e
      rcases uv with ⟨rfl, rfl⟩ | ⟨rfl, rfl⟩
      · constructor
        · rintro _ (z | ⟨z, _⟩)
          · exact nu z
          · omega
        · exact fun _ => .inr ⟨rfl, rfl⟩
      · constructor
        · rintro (z | ⟨z, _⟩) _
          · exact nu z
          · omega
        · exact fun z => absurd (.inr ⟨rfl, rfl⟩) z
    · have q' : Dn a b x y := by unfold Dn at q ⊢; omega
      have z := h.one x y hx hy q'
      have w1 : ¬ (x = u ∧ (y : Int) = (v : Int)) := fun w => by unfold Dn at q'; omega
      have w2 : ¬ (y = u ∧ (x : Int) = (v : Int)) := fun w => by unfold Dn at q'; omega
      simp only [w1, w2, or_false]
      exact z
theorem Half.tb {m : Nat} {rs : List (List Int)} (h : Half m m m rs) : Tb m (rs.map sortI) := by
  have g : ∀ x, x < m → (rs.map sortI).getD x [] = sortI (rs.getD x []) := fun x hx => by
    rw [List.getD_eq_getElem?_getD, List.getElem?_map, List.getD_eq_getElem?_getD, List.getElem?_eq_getElem (by rw [h.len]; exact hx)]
    rfl
  have mm : ∀ x, x < m → ∀ z, z ∈ (rs.map sortI).getD x [] ↔ z ∈ rs.getD x [] := fun x hx z => by rw [g x hx, (sortI_perm _).mem_iff]
  refine ⟨by rw [List.length_map]; exact h.len, fun x hx => ?_, fun x hx z hz => ?_, fun x y hx hy => ?_⟩
  · rw [g x hx]
    exact sort_asc (h.nd x hx)
  · obtain ⟨y, hy, ez, _⟩ := h.inr x hx z ((mm x hx z).mp hz)
    omega
  · unfold dec
    by_cases e : x = y
    · rw [if_pos e]
      have z : ¬ (x : Int) ∈ (rs.map sortI).getD x [] := fun q => by
        obtain ⟨y, hy, ez, q⟩ := h.inr x hx _ ((mm x hx _).mp q)
        unfold Dn at q
        omega
      rw [decide_eq_false z]
      rfl
    · rw [if_neg e]
      simp only [mm x hx, mm y hy]
      have z : ((y : Int) ∈ rs.getD x [] ↔ ¬ (x : Int) ∈ rs.getD y []) := by
        rcases Nat.lt_or_gt_of_ne e with q | q
        · exact h.one x y hx hy ⟨q, .inl hx⟩
        · have := h.one y x hy hx ⟨q, .inl hy⟩
          constructor
          · exact fun a b => this.mp b a
          · exact fun a => Classical.byContradiction fun b => a (this.mpr b)
      by_cases q : (x : Int) ∈ rs.getD y []
      · rw [decide_eq_true q, decide_eq_false fun w => z.mp w q]; rfl
      · rw [decide_eq_false q, decide_eq_true (z.mpr q)]; rfl
theorem rgD_cons (lo : Int) (n : Nat) : rgD lo (n + 1) = .int lo :: rgD (lo + 1) n := by
  unfold rgD
  rw [List.range_succ_eq_map, List.map_cons, List.map_map]
  congr 1
  · simp
  · apply List.map_congr_left
    intro i _
    show D.int (lo + ((i + 1 : Nat) : Int)) = D.int (lo + 1 + (i : Int))
    congr 1
    omega
def rowO (r : List Int) : O := .lst (r.map D.int)
theorem own_row {st : DSt} {p u : Nat} {o x : O} {rs : List (List Int)} (h : u < rs.length) : (st.set p o ++ (x :: rs.map rowO))[st.length + 1 + u]? = some (.lst ((rs.getD u []).map D.int)) := by
  rw [List.getElem?_append_right (by rw [List.length_set]; omega), List.length_set, show st.length + 1 + u - st.length = u + 1 by omega, List.getElem?_cons_succ, List.getElem?_map, List.getD_eq_getElem?_getD, List.getElem?_eq_getElem h]
  rfl
theorem put_row {st : DSt} {p u : Nat} {o x : O} {rs : List (List Int)} {r : List Int} : (st.set p o ++ (x :: rs.map rowO)).set (st.length + 1 + u) (.lst (r.map D.int)) = st.set p o ++ (x :: (rs.set u r).map rowO) := by
  rw [List.set_append_right _ _ (by rw [List.length_set]; omega), List.length_set, show st.length + 1 + u - st.length = u + 1 by omega, List.set_cons_succ, List.map_set]
  rfl
theorem fin_lst {Q : DK} {acc : List D} {st : DSt} (q : Q (.lst acc) st) : finT Q acc st := q
def rfs (L m : Nat) : List D := (List.range m).map fun u : Nat => D.ref (L + u)
theorem rfs_at {L m u : Nat} (h : u < m) : atI (rfs L m) (u : Int) = some (.ref (L + u)) := at_map (by rw [List.getElem?_range h])
end DL
namespace DL
open PySem PySem.Spec PyProof.Rows L2 LamX PySem.W SL
theorem Hist.left {m n : Nat} {a b : List Nat} (h : Hist m n (a ++ b)) : Hist m n a := by
  have nd := h.nd
  have fw := h.few
  rw [List.nodup_append] at nd
  rw [List.length_append] at fw
  exact ⟨nd.1, fun k hk => h.lt k (List.mem_append_left _ hk), by omega⟩
end DL
namespace DL
open PySem PySem.Spec PyProof.Rows L2 LamX PySem.W SL
section
variable {m n : Nat} {hs : List Nat} {P : List (List Int)} {R : List (List (List Int))}
theorem flow_le {c : List Int} (hc : Cnt c) {u : Nat} (hu : u < c.length) : 0 ≤ (ML.flowsI c).getD u 0 ∧ (ML.flowsI c).getD u 0 ≤ c.length := by
  have f := hc.fl _ (getD_mem (l := ML.flowsI c) (i := u) (by rw [ML.flowsI_length]; exact hu))
  omega
end
end DL
namespace DL
open PySem PySem.Spec PyProof.Rows L2 LamX PySem.W SL
def F__law_any_table (g__law_pick : DRs) : DTS := (sSeq (sSet 3 (dLcG (wRng1 (daCons (dVar 1) daNil)) (gNm 2) dtYes (dLstN daNil) [2] finT)) (sSeq (sFor (wRng1 (daCons (dVar 1) daNil)) (gNm 2) (sFor (wRng1 (daCons (dVar 2) daNil)) (gNm 4) (sSeq (sSet 5 (dCB g__law_pick (daCons (dVar 0) (daCons (dLst (daCons (dVar 2) (daCons (dVar 4) daNil))) daNil)))) (sSeq (sSet 6 (dOp dIx (dVar 3) (dVar 5))) (sDrop (dMtL mAppend (dVar 6) (daCons (dOp dSub (dOp dAdd (dVar 2) (dVar 4)) (dVar 5)) daNil))))))) (sRet (dCB dTuple (daCons (dLcG (wSeq (dVar 3)) (gNm 7) dtYes (dCB dTuple (daCons (dCB (dSortI finT) (daCons (dVar 7) daNil)) daNil)) [7] finT) daNil)))))
def F__law_turned (g__law_mixed : DRs) : DTS := (sSeq (sIf (dTest (dOp dLtG (dCB dLen (daCons (dVar 1) daNil)) (dC (.int 2)))) (sRet (dVar 1)) sNext) (sSeq (sAsg (dSlG finT (dCB g__law_mixed (daCons (dVar 0) (daCons (dLRg1 finT (dCB dLen (daCons (dVar 1) daNil))) daNil))) oNone (oSome (dC (.int 2)))) (gTp 2 (gsCons (gNm 2) (gsCons (gNm 3) gsNil)))) (sSeq (sAsg (dTup (daCons (dCB (dSortI finT) (daCons (dLst (daCons (dVar 2) (daCons (dVar 3) daNil))) daNil)) (daCons (dLstN daNil) daNil))) (gTp 2 (gsCons (gNm 4) (gsCons (gNm 5) gsNil)))) (sSeq (sFor (wEnum (daCons (dVar 1) daNil)) (gTp 2 (gsCons (gNm 6) (gsCons (gNm 7) gsNil))) (sDrop (dMtL mAppend (dVar 5) (daCons (dLcG (wSeq (dVar 7)) (gNm 11) (dTest (dOp dNe (dCB (dSortI finT) (daCons (dLst (daCons (dVar 6) (daCons (dVar 11) daNil))) daNil)) (dVar 4))) (dVar 11) [11] finN) daNil)))) (sSeq (sAsg (dIf (dTest (dOp dIn (dVar 3) (dOp dIx (dVar 1) (dVar 2)))) (dTup (daCons (dVar 3) (daCons (dVar 2) daNil))) (dTup (daCons (dVar 2) (daCons (dVar 3) daNil)))) (gTp 2 (gsCons (gNm 8) (gsCons (gNm 9) gsNil)))) (sSeq (sSet 10 (dOp dIx (dVar 5) (dVar 8))) (sSeq (sDrop (dMtL mAppend (dVar 10) (daCons (dVar 9) daNil))) (sRet (dCB dTuple (daCons (dLcG (wSeq (dVar 5)) (gNm 7) dtYes (dCB dTuple (daCons (dCB (dSortI finT) (daCons (dVar 7) daNil)) daNil)) [7] finT) daNil))))))))))
def F__law_table (g__law_take : DRs) (g__law_mixed : DRs) (g__law_ordered_table : DRs) (g__law_any_table : DRs) (g__law_turned : DRs) : DTS := (sSeq (sSet 2 (dCB g__law_take (daCons (dVar 0) (daCons (dC (.int 4)) daNil)))) (sSeq (sIf (dTest (dOp dEq (dVar 2) (dC (.int 0)))) (sRet (dCB g__law_any_table (daCons (dVar 0) (daCons (dVar 1) daNil)))) sNext) (sSeq (sSet 3 (dCB g__law_ordered_table (daCons (dCB g__law_mixed (daCons (dVar 0) (daCons (dLRg1 finT (dVar 1)) daNil))) daNil))) (sRet (dIf (dTest (dOp dEq (dVar 2) (dC (.int 1)))) (dCB g__law_turned (daCons (dVar 0) (daCons (dVar 3) daNil))) (dVar 3))))))
end DL
namespace DL
open PySem PySem.Spec PyProof.Rows L2 LamX PySem.W SL
theorem in_ints {st : DSt} {ns : List Int} {x : Int} {Q : DK} (q : Q (.bl (decide (x ∈ ns))) st) : dInG false (.int x) (.tup (ns.map D.int)) st Q := row_in q
end DL
namespace DL
open PySem PySem.Spec PyProof.Rows L2 LamX PySem.W SL
def hL (hs : List Nat) : List D := hs.map fun h : Nat => D.int (h : Nat)
structure HLay (m n : Nat) (hs : List Nat) (sl : List Int) : Prop where
  len : hs.length = m
  lt : ∀ h ∈ hs, h < n
  lay : Lay m n sl
  n0 : 0 < n
  few : n ≤ 100
theorem HLay.hm_lt {m n : Nat} {hs : List Nat} {sl : List Int} (S : HLay m n hs sl) {k : Nat} (hk : k < m) : hm hs k < n := S.lt _ (getD_memL (by rw [S.len]; exact hk))
end DL
namespace DL
open PySem PySem.Spec PyProof.Rows L2 LamX PySem.W SL
section
variable {m n : Nat} {hs : List Nat} {P : List (List Int)} {R : List (List (List Int))}
end
end DL
namespace DL
open PySem PySem.Spec PyProof.Rows L2 LamX PySem.W SL
end DL
namespace DL
open PySem PySem.Spec PyProof.Rows L2 LamX PySem.W SL
end DL
namespace DL
open PySem PySem.Spec PyProof.Rows L2 LamX PySem.W SL
structure HalfR (m : Nat) (E : Nat → Nat → Prop) (rs : List (List Int)) : Prop where
  len : rs.length = m
  nd : ∀ x, x < m → (rs.getD x []).Nodup
  inr : ∀ x, x < m → ∀ z ∈ rs.getD x [], ∃ y : Nat, y < m ∧ z = (y : Int) ∧ (E x y ∨ E y x)
  one : ∀ x y, x < m → y < m → E x y → ((y : Int) ∈ rs.getD x [] ↔ ¬ (x : Int) ∈ rs.getD y [])
section
variable {m : Nat} {E F : Nat → Nat → Prop} {rs : List (List Int)}
theorem HalfR.congr (h : HalfR m E rs) (e : ∀ x y, x < m → y < m → (E x y ↔ F x y)) : HalfR m F rs :=
  ⟨h.len, h.nd, fun x hx z hz => by
    obtain ⟨y, hy, ez, q⟩ := h.inr x hx z hz
    exact ⟨y, hy, ez, q.imp (e x y hx hy).mp (e y x hy hx).mp⟩, fun x y hx hy q => h.one x y hx hy ((e x y hx hy).mpr q)⟩
theorem HalfR.start (m : Nat) (E : Nat → Nat → Prop) (no : ∀ x y, ¬ E x y) : HalfR m E (List.replicate m []) := by
  have z : ∀ x, (List.replicate m ([] : List Int)).getD x [] = [] := fun x => by
    rw [List.getD_eq_getElem?_getD, List.getElem?_replicate]
    split <;> rfl
  refine ⟨by simp, fun x hx => by rw [z]; exact List.nodup_nil, fun x hx y hy => ?_, fun x y hx hy q => absurd q (no x y)⟩
  rw [z] at hy
  cases hy
theorem HalfR.step {a b u v : Nat} (h : HalfR m E rs) (ab : a ≠ b) (ha : a < m) (hb : b < m) (n1 : ¬ E a b) (n2 : ¬ E b a) (uv : (u = a ∧ v = b) ∨ (u = b ∧ v = a)) : HalfR m (fun x y => E x y ∨ (x = a ∧ y = b)) (rs.set u (rs.getD u [] ++ [(v : Int)])) := by
  have hum : u < m := by omega
  have hvm : v < m := by omega
  have hu : u < rs.length := by rw [h.len]; exact hum
  have no : ¬ E u v ∧ ¬ E v u := by
    rcases uv with ⟨rfl, rfl⟩ | ⟨rfl, rfl⟩
    · exact ⟨n1, n2⟩
    · exact ⟨n2, n1⟩
  have nv : ¬ (v : Int) ∈ rs.getD u [] := fun z => by
    obtain ⟨y, hy, ez, q⟩ := h.inr u hum _ z
    have : y = v := by omega
    subst this
    exact q.elim no.1 no.2
  have nu : ¬ (u : Int) ∈ rs.getD v [] := fun z => by
    obtain ⟨y, hy, ez, q⟩ := h.inr v hvm _ z
    have : y = u := by omega
    subst this
    exact q.elim no.2 no.1
  refine ⟨by rw [List.length_set]; exact h.len, fun x hx => ?_, fun x hx z hz => ?_, fun x y hx hy q => ?_⟩
  · by_cases e : x = u
    · subst e
      rw [List.getD_eq_getElem?_getD (l := rs.set _ _), List.getElem?_set_self hu]
      show (rs.getD x [] ++ [(v : Int)]).Nodup
      rw [List.nodup_append]
      refine ⟨h.nd x hx, by simp, fun a ha b hb => ?_⟩
      rw [List.mem_singleton.mp hb]
      rintro rfl
      exact nv ha
    · rw [List.getD_eq_getElem?_getD (l := rs.set _ _), List.getElem?_set_ne (fun w => e w.symm), ← List.getD_eq_getElem?_getD]
      exact h.nd x hx
  · rcases (mem_setD hu).mp hz with q | ⟨e1, e2⟩
    · obtain ⟨y, hy, ez, q⟩ := h.inr x hx z q
      exact ⟨y, hy, ez, q.imp .inl .inl⟩
    · refine ⟨v, hvm, e2, ?_⟩
      rcases uv with ⟨rfl, rfl⟩ | ⟨rfl, rfl⟩
      · exact .inl (.inr ⟨e1, rfl⟩)
      · exact .inr (.inr ⟨rfl, e1⟩)
  · rw [mem_setD hu, mem_setD hu]
    by_cases e : x = a ∧ y = b
    · obtain ⟨rfl, rfl⟩ := e
      rcases uv with ⟨rfl, rfl⟩ | ⟨rfl, rfl⟩
      · constructor
        · rintro _ (z | ⟨z, _⟩)
          · exact nu z
          · exact ab z.symm
        · exact fun _ => .inr ⟨rfl, rfl⟩
      · constructor
        · rintro (z | ⟨z, _⟩) _
          · exact nu z
          · exact ab z
        · exact fun z => absurd (.inr ⟨rfl, rfl⟩) z
    · have q' : E x y := q.elim id fun w => absurd w e
      have z := h.one x y hx hy q'
      have w1 : ¬ (x = u ∧ (y : Int) = (v : Int)) := fun w => by
        have : y = v := by omega
        rw [w.1, this] at q'
        exact no.1 q'
      have w2 : ¬ (y = u ∧ (x : Int) = (v : Int)) := fun w => by
        have : x = v := by omega
        rw [w.1, this] at q'
        exact no.2 q'
      simp only [w1, w2, or_false]
      exact z
theorem HalfR.few (h : HalfR m E rs) {u : Nat} (hu : u < m) : (rs.getD u []).length ≤ m := by
  have z := sub_len (ys := DL.R m) (h.nd u hu) fun x hx => by
    obtain ⟨y, hy, ez, _⟩ := h.inr u hu x hx
    rw [R_mem]
    omega
  rw [R_length] at z
  exact z
theorem HalfR.tb (h : HalfR m E rs) (all : ∀ x y, x < m → y < m → x ≠ y → E x y ∨ E y x) (irr : ∀ x, ¬ E x x) : Tb m (rs.map sortI) := by
  refine Half.tb ⟨h.len, h.nd, fun x hx z hz => ?_, fun x y hx hy q => ?_⟩
  · obtain ⟨y, hy, ez, q⟩ := h.inr x hx z hz
    have ne : x ≠ y := fun e => by
      subst e
      exact q.elim (irr x) (irr x)
    refine ⟨y, hy, ez, ?_⟩
    unfold Dn
    omega
  · unfold Dn at q
    rcases all x y hx hy (by omega) with e | e
    · exact h.one x y hx hy e
    · have := h.one y x hy hx e
      constructor
      · exact fun a b => this.mp b a
      · exact fun a => Classical.byContradiction fun b => a (this.mpr b)
end
def Along (hs : List Nat) (a b x y : Nat) : Prop := ∃ i j, i < j ∧ hs[i]? = some x ∧ hs[j]? = some y ∧ (i < a ∨ (i = a ∧ j < b))
theorem Along.step {hs : List Nat} (nd : hs.Nodup) {a b u v x y : Nat} (ab : a < b) (hu : hs[a]? = some u) (hv : hs[b]? = some v) : (Along hs a b x y ∨ (x = u ∧ y = v)) ↔ Along hs a (b + 1) x y := by
  constructor
  · rintro (⟨i, j, ij, h1, h2, q⟩ | ⟨rfl, rfl⟩)
    · exact ⟨i, j, ij, h1, h2, by omega⟩
    · exact ⟨a, b, ab, hu, hv, by omega⟩
  · rintro ⟨i, j, ij, h1, h2, q⟩
    by_cases e : i = a ∧ j = b
    · obtain ⟨rfl, rfl⟩ := e
      rw [hu] at h1
      rw [hv] at h2
      exact .inr ⟨(Option.some.inj h1).symm, (Option.some.inj h2).symm⟩
    · exact .inl ⟨i, j, ij, h1, h2, by omega⟩
end DL
namespace DL
open PySem PySem.Spec PyProof.Rows L2 LamX PySem.W SL
structure Rul (m n : Nat) (R : List (List (List Int))) : Prop where
  len : R.length = n
  tb : ∀ t ∈ R, Tb m t
  m0 : 1 ≤ m
  m16 : m ≤ 16
  n0 : 1 ≤ n
  n16 : n ≤ 16
theorem Rul.at0 {m n : Nat} {R : List (List (List Int))} (W : Rul m n R) : atI (R.map rowsD) 0 = some (.tup ((R.getD 0 []).map rowD)) ∧ (R.getD 0 []).length = m := by
  have lR := W.len
  have n0 := W.n0
  have h := List.getElem?_eq_getElem (l := R) (i := 0) (by omega)
  have e : R.getD 0 [] = R[0] := by rw [List.getD_eq_getElem?_getD, h]; rfl
  rw [e]
  exact ⟨at_map (i := 0) h, (W.tb _ (List.getElem_mem _)).len⟩
end DL
namespace DL
open PySem PySem.Spec PyProof.Rows L2 LamX PySem.W SL
theorem enum_dropG {xs : List D} {i : Nat} {d : D} {ds : List D} (h : d :: ds = (enumD xs).drop i) : ∃ x, xs[i]? = some x ∧ d = .tuk [.int (i : Nat), x] ∧ ds = (enumD xs).drop (i + 1) := by
  obtain ⟨e, _, e2⟩ := drop_cons h.symm
  obtain ⟨x, ex, rfl⟩ := enumD_get e
  exact ⟨x, ex, rfl, e2.symm⟩
end DL
namespace DL
open PySem PySem.Spec PyProof.Rows L2 LamX PySem.W SL
end DL
namespace DL
open PySem PySem.Spec PyProof.Rows L2 LamX PySem.W SL
end DL
namespace DL
open PySem PySem.Spec PyProof.Rows L2 LamX PySem.W SL
section
variable {m n : Nat} {P : List (List Int)} {R : List (List (List Int))}
def First (m n : Nat) (P : List (List Int)) (s0 : Nat) : Prop := s0 < n ∧ ∀ a, a < m → pr P a 0 = s0
theorem First.ne (S : Setg m n P R) {s0 a i : Nat} (F : First m n P s0) (ha : a < m) (hi : i < n) (i1 : 1 ≤ i) : pr P a i ≠ s0 := fun e => by
  have h := S.rk_pr ha hi
  rw [e, ← F.2 a ha, S.rk_pr ha (by omega)] at h
  omega
end
end DL
namespace DL
open PySem PySem.Spec PyProof.Rows L2 LamX PySem.W SL
section
variable {m n : Nat} {P : List (List Int)} {R : List (List (List Int))}
end
theorem eqv_ints : ∀ ns ms : List Int, PyData.eqvAll (ns.map PyData.int) (ms.map PyData.int) = decide (ns = ms)
  | [], [] => by simp [PyData.eqvAll]
  | [], _ :: _ => by simp [PyData.eqvAll]
  | _ :: _, [] => by simp [PyData.eqvAll]
  | a :: r, b :: s => by
    simp only [List.map_cons, PyData.eqvAll, PyData.eqv, eqv_ints r s]
    by_cases h : a = b <;> by_cases q : r = s <;> simp [h, q]
theorem pdTs_ints : ∀ ns : List Int, pdTs (ns.map D.int) = some (ns.map PyData.int)
  | [] => rfl
  | a :: r => by simp [pdTs, pdT, pdTs_ints r]
end DL
namespace DL
open PySem PySem.Spec PyProof.Rows L2 LamX PySem.W SL
section
variable {m n : Nat} {P : List (List Int)} {R : List (List (List Int))}
end
end DL
namespace DL
open PySem PySem.Spec PyProof.Rows L2 LamX PySem.W SL
section
variable {m n : Nat} {P : List (List Int)} {R : List (List (List Int))}
end
end DL
namespace DL
open PySem PySem.Spec PyProof.Rows L2 LamX PySem.W SL
theorem sort_perm {xs ys : List Int} (p : xs.Perm ys) : sortI xs = sortI ys := sorted_one (((sortI_perm xs).trans p).trans (sortI_perm ys).symm) (sortI_sorted xs) (sortI_sorted ys)
end DL
namespace DL
open PySem PySem.Spec PyProof.Rows L2 LamX PySem.W SL
section
variable {m n : Nat} {P : List (List Int)} {R : List (List (List Int))}
end
end DL
namespace DL
open PySem PySem.Spec PyProof.Rows L2 LamX PySem.W SL
end DL
namespace DL
open PySem PySem.Spec PyProof.Rows L2 LamX PySem.W SL
end DL
namespace DL
open PySem PySem.Spec PyProof.Rows L2 LamX PySem.W SL
end DL
namespace DL
open PySem PySem.Spec PyProof.Rows L2 LamX PySem.W SL
end DL
namespace DL
open PySem PySem.Spec PyProof.Rows L2 LamX PySem.W SL
section
variable {m n : Nat} {P : List (List Int)} {R : List (List (List Int))}
end
end DL
namespace DL
open PySem PySem.Spec PyProof.Rows L2 LamX PySem.W SL
section
variable {m n : Nat} {P : List (List Int)} {R : List (List (List Int))}
end
end DL
namespace DL
open PySem PySem.Spec PyProof.Rows L2 LamX PySem.W SL
section
variable {m n : Nat} {P : List (List Int)} {R : List (List (List Int))}
end
end DL
namespace DL
open PySem PySem.Spec PyProof.Rows L2 LamX PySem.W SL
def g_tabOfL : DRs := fun ds st Q => ∃ (n : Nat) (ns : List Int), ds = [.lst (ns.map D.int)] ∧ Ord n ns ∧ n ≤ 60 ∧ Q (rowsD (ordT ns)) st
theorem ar_tabOfL (ds : List D) (st : DSt) (Q : DK) (h : g_tabOfL ds st Q) : ds.length = 1 := by
  obtain ⟨_, _, rfl, _⟩ := h
  rfl
theorem sem_tabOfL (ds : List D) (st : DSt) (Q : DK) (h : g_tabOfL ds st Q) : F__law_ordered_table { nx := fun _ st' => Rt st Q .non st', rt := Rt st Q } (startD 2 ds) st := by
  obtain ⟨n, ns, rfl, o, n60, q⟩ := h
  have st2 : startD 2 [D.lst (ns.map D.int)] = [some (.lst (ns.map D.int)), none] := rfl
  have big : (1000 : Nat) ≤ sizeLine := by decide
  have ln := o.len
  simp only [F__law_ordered_table, st2, e_var, e_C, e_op, e_neg, e_isN, e_notN, e_and, e_or, e_not, e_test, e_tAnd, e_tOr, e_tNot, e_tYes, e_if, e_aNil, e_aCons, e_tup, e_lst, e_lstN, e_len0, e_len1, e_len2, e_len3, e_len4, e_len5, e_cb, e_on1, e_on2, e_onI, e_onB, e_onO, e_onO0, e_onOO, e_I0, e_I, e_add, e_addT, e_addS, e_addL, e_addLR, e_addRL, e_addRR, e_mul, e_mulL, e_mulT, e_rev, e_revT, e_ix, e_eqI, e_eqS, e_eqB, e_neI, e_neS, e_neB, e_ltI, e_chain, e_len, e_abs, e_2I, e_tuple1, e_tuple2, e_tuple3, e_listT, e_listN, e_allR, e_seqT, e_seqK, e_seqL, e_isi, e_isB, e_notB, e_truth, e_next, e_seq, e_drop, e_ret, e_retN, e_ifS, e_set, e_asg, e_par, e_nm, e_gsN, e_gsC, e_gTpK, e_gTpL, e_sum, e_maxL, e_minL, e_maxDef, e_int, e_intB, e_aug, e_on3, e_par3, e_newK, e_getK, e_keyI, e_keyS, e_inK, e_ninK, e_putK, e_lenK, e_lstS, e_seqX, e_gTpT, e_oN, e_oS, e_sl, e_slT, e_slL, e_finT, e_finN, e_index, e_idxT, e_idxL, e_mIx, e_ixST, e_ixSL, e_mtL, e_w, e_w1, e_w2, e_wE, e_wZ, e_itK, e_itT, e_itL, e_itT2, e_itL2, e_lc, e_for, e_wipe0, e_wipe, e_okI, e_okR, e_gSb, List.getElem?_cons_zero, List.getElem?_cons_succ, List.set_cons_zero, List.set_cons_succ, List.length_map, rgD_length, Int.toNat_natCast]
  refine ⟨⟨by omega, by omega⟩, by omega, lc_rng (fun k => rowD (sortI (ns.drop (pos ns (k : Int) + 1)))) (fun k lt Q' q' => ?_) ?_⟩
  · have mk : (k : Int) ∈ ns := o.mem.mpr (by omega)
    simp only [e_var, e_C, e_op, e_neg, e_isN, e_notN, e_and, e_or, e_not, e_test, e_tAnd, e_tOr, e_tNot, e_tYes, e_if, e_aNil, e_aCons, e_tup, e_lst, e_lstN, e_len0, e_len1, e_len2, e_len3, e_len4, e_len5, e_cb, e_on1, e_on2, e_onI, e_onB, e_onO, e_onO0, e_onOO, e_I0, e_I, e_add, e_addT, e_addS, e_addL, e_addLR, e_addRL, e_addRR, e_mul, e_mulL, e_mulT, e_rev, e_revT, e_ix, e_eqI, e_eqS, e_eqB, e_neI, e_neS, e_neB, e_ltI, e_chain, e_len, e_abs, e_2I, e_tuple1, e_tuple2, e_tuple3, e_listT, e_listN, e_allR, e_seqT, e_seqK, e_seqL, e_isi, e_isB, e_notB, e_truth, e_next, e_seq, e_drop, e_ret, e_retN, e_ifS, e_set, e_asg, e_par, e_nm, e_gsN, e_gsC, e_gTpK, e_gTpL, e_sum, e_maxL, e_minL, e_maxDef, e_int, e_intB, e_aug, e_on3, e_par3, e_newK, e_getK, e_keyI, e_keyS, e_inK, e_ninK, e_putK, e_lenK, e_lstS, e_seqX, e_gTpT, e_oN, e_oS, e_sl, e_slT, e_slL, e_finT, e_finN, e_index, e_idxT, e_idxL, e_mIx, e_ixST, e_ixSL, e_mtL, e_w, e_w1, e_w2, e_wE, e_wZ, e_itK, e_itT, e_itL, e_itT2, e_itL2, e_lc, e_for, e_wipe0, e_wipe, e_okI, e_okR, e_gSb, List.getElem?_cons_zero, List.getElem?_cons_succ, List.set_cons_zero, List.set_cons_succ, intsD_ints, (pos_at mk).2, true_and]
    have e : ((pos ns (k : Int) : Nat) : Int) + 1 = ((pos ns (k : Int) + 1 : Nat) : Int) := by omega
    rw [e, cutN, ← List.map_drop]
    refine sort_ev rfl (by rw [List.length_drop]; omega) ?_
    exact q'
  · refine tuple_end (.inl ?_)
    have e : (List.range ns.length).map (fun k : Nat => rowD (sortI (ns.drop (pos ns (k : Int) + 1)))) = (ordT ns).map rowD := by unfold ordT; rw [List.map_map]; rfl
    rw [e]
    exact q
theorem own_rowA {st : DSt} {p u : Nat} {o : O} {rs : List (List Int)} (h : u < rs.length) : (st.set p o ++ rs.map rowO)[st.length + u]? = some (.lst ((rs.getD u []).map D.int)) := by
  rw [List.getElem?_append_right (by rw [List.length_set]; omega), List.length_set, show st.length + u - st.length = u by omega, List.getElem?_map, List.getD_eq_getElem?_getD, List.getElem?_eq_getElem h]
  rfl
theorem put_rowA {st : DSt} {p u : Nat} {o : O} {rs : List (List Int)} {r : List Int} : (st.set p o ++ rs.map rowO).set (st.length + u) (.lst (r.map D.int)) = st.set p o ++ (rs.set u r).map rowO := by
  rw [List.set_append_right _ _ (by rw [List.length_set]; omega), List.length_set, show st.length + u - st.length = u by omega, List.map_set]
  rfl
def Dm (a b x y : Nat) : Prop := y < x ∧ (x < a ∨ (x = a ∧ y < b))
theorem sorted_rows {rs : List (List Int)} {m : Nat} (l : rs.length = m) : (List.range m).map (fun u : Nat => rowD (sortI (rs.getD u []))) = (rs.map sortI).map rowD := by
  refine List.ext_getElem (by simp [l]) fun i h1 h2 => ?_
  have hi : i < rs.length := by simpa using h2
  simp only [List.getElem_map, List.getElem_range]
  rw [List.getD_eq_getElem?_getD, List.getElem?_eq_getElem hi]
  rfl
def g_anyT : DRs := fun ds st Q => ∃ (p k m : Nat), ds = [.ref p, .int (m : Nat)] ∧ Pot (k + 300) p st ∧ m ≤ 16 ∧ ∀ (t : List (List Int)) (o : O), Tb m t → PotO k o → Q (rowsD t) (st.set p o)
theorem ar_anyT (ds : List D) (st : DSt) (Q : DK) (h : g_anyT ds st Q) : ds.length = 2 := by
  obtain ⟨_, _, _, rfl, _⟩ := h
  rfl
set_option maxHeartbeats 4000000 in
theorem sem_anyT (ds : List D) (st : DSt) (Q : DK) (h : g_anyT ds st Q) : F__law_any_table g_pick { nx := fun _ st' => Rt st Q .non st', rt := Rt st Q } (startD 8 ds) st := by
  obtain ⟨p, k, m, rfl, pot, m16, q⟩ := h
  have lt := pot.lt
  obtain ⟨o0, e0, po0⟩ := pot
  have st8 : startD 8 [D.ref p, D.int (m : Nat)] = [some (.ref p), some (.int (m : Nat)), none, none, none, none, none, none] := rfl
  have big : (1000 : Nat) ≤ sizeLine := by decide
  simp only [F__law_any_table, st8]
  try dsimp only
  rw [e_seq]
  exists 4, Int.toNat_natCast
  refine ⟨⟨by omega, by omega⟩, by rw [rgD_length]; omega, ?_⟩
  refine compL_inv m (fun c acc st' => acc = rfs st.length c ∧ st' = st.set p o0 ++ (List.replicate c []).map rowO) (fun c d acc st' Nx lc w hNx => ?_) ?_ _ [] 0 _ (by rw [rgD_length, Nat.zero_add]) ⟨rfl, by rw [set_same e0]; simp⟩
  · obtain ⟨rfl, rfl⟩ := w
    exists 4
    have ll : (st.set p o0 ++ (List.replicate c []).map rowO).length = st.length + c := by simp
    rw [ll]
    refine hNx _ _ ⟨?_, ?_⟩
    · unfold rfs
      rw [List.range_succ, List.map_append]
      rfl
    · rw [List.replicate_succ', List.map_append]
      simp [rowO]
  rintro acc st' ⟨rfl, rfl⟩
  refine fin_lst ?_
  try dsimp only
  rw [e_seq]
  exists 4, Int.toNat_natCast
  refine ⟨⟨by omega, by omega⟩, ?_⟩
  refine for_inv (fun left r st' => ∃ (a : Nat) (rs : List (List Int)) (o : O) (x2 x4 x5 x6 : Option D), left = rgD (a : Int) (m - a) ∧ a ≤ m ∧ HalfR m (Dm a 0) rs ∧ r = [some (.ref p), some (.int (m : Nat)), x2, some (.lst (rfs st.length m)), x4, x5, x6, none] ∧ st' = st.set p o ++ rs.map rowO ∧ PotO (k + (m - a) * 16) o) ?_ ?_ _ _ _ ⟨0, List.replicate m [], o0, _, _, _, _, rfl, by omega, HalfR.start m _ (fun x y h => by unfold Dm at h; omega), rfl, rfl, po0.less (by omega)⟩
  · rintro d left r st' N hN ⟨a, rs, o, x2, x4, x5, x6, el, am, H, rfl, rfl, po⟩
    have am2 : a < m := by
      have := congrArg List.length el
      rw [rgD_length, List.length_cons] at this
      omega
    rw [show m - a = (m - (a + 1)) + 1 by omega, rgD_cons] at el
    injection el with el1 el2
    subst el1
    subst el2
    exists 4
    exists 4, Int.toNat_natCast
    refine ⟨⟨by omega, by omega⟩, ?_⟩
    refine for_inv (fun left3 r st' => ∃ (b : Nat) (rs : List (List Int)) (o : O) (x4 x5 x6 : Option D), left3 = rgD (b : Int) (a - b) ∧ b ≤ a ∧ HalfR m (Dm a b) rs ∧ r = [some (.ref p), some (.int (m : Nat)), some (.int (a : Nat)), some (.lst (rfs st.length m)), x4, x5, x6, none] ∧ st' = st.set p o ++ rs.map rowO ∧ PotO (k + (m - (a + 1)) * 16 + (a - b)) o) ?_ ?_ _ _ _ ⟨0, rs, o, _, _, _, rfl, by omega, H, rfl, rfl, po.less (by rw [show m - a = (m - (a + 1)) + 1 by omega, Nat.succ_mul]; omega)⟩
    · rintro d3 left3 r st' N3 hN3 ⟨b, rs, o, x4, x5, x6, el, ab, H, rfl, rfl, po⟩
      have bm2 : b < a := by
        have := congrArg List.length el
        rw [rgD_length, List.length_cons] at this
        omega
      rw [show a - b = (a - (b + 1)) + 1 by omega, rgD_cons] at el
      injection el with el1 el2
      subst el1
      subst el2
      exists 4
      try dsimp only
      rw [e_seq]
      exists 4
      refine pick_ev (n := k + (m - (a + 1)) * 16 + (a - (b + 1))) (pot_at lt (po.less (by omega))) (by simp) (by simp) fun d o2 hd po2 => ?_
      rw [pot_app lt]
      obtain ⟨u, v, rfl, hv, uv⟩ : ∃ u v : Nat, d = .int (u : Nat) ∧ (a : Int) + (b : Int) - (u : Int) = (v : Nat) ∧ ((u = a ∧ v = b) ∨ (u = b ∧ v = a)) := by
        simp only [List.mem_cons, List.not_mem_nil, or_false] at hd
        rcases hd with rfl | rfl
        · exact ⟨a, b, rfl, by omega, .inl ⟨rfl, rfl⟩⟩
        · exact ⟨b, a, rfl, by omega, .inr ⟨rfl, rfl⟩⟩
      have hu : u < m := by omega
      have hu2 : u < rs.length := by rw [H.len]; exact hu
      have few := H.few hu
      have H2 := H.step (a := a) (b := b) (u := u) (v := v) (by omega) am2 (by omega) (fun z => by unfold Dm at z; omega) (fun z => by unfold Dm at z; omega) uv
      try dsimp only
      rw [e_seq]
      exists 4, rfs_at hu
      exists 4
      rw [hv]
      refine ⟨by unfold LstD; simp only [own_rowA hu2], append_ref (own_rowA hu2) (by rw [List.length_map]; omega) ?_⟩
      have ea : (rs.getD u []).map D.int ++ [D.int (v : Nat)] = (rs.getD u [] ++ [(v : Int)]).map D.int := by rw [List.map_append]; rfl
      rw [ea, put_rowA]
      exact hN3 _ _ (.inl ⟨b + 1, _, o2, _, _, _, by rw [show ((b + 1 : Nat) : Int) = (b : Int) + 1 by omega], by omega, H2.congr (fun x y hx hy => by unfold Dm; omega), rfl, rfl, po2⟩)
    · rintro r st' ⟨b, rs, o, x4, x5, x6, el, ab, H, rfl, rfl, po⟩
      have eb : b = a := by
        have := congrArg List.length el
        rw [rgD_length] at this
        simp at this
        omega
      subst eb
      exists 4
      exact hN _ _ (.inl ⟨b + 1, rs, o, _, _, _, _, by rw [show ((b + 1 : Nat) : Int) = (b : Int) + 1 by omega], by omega, H.congr (fun x y hx hy => by unfold Dm; omega), rfl, rfl, po.less (by omega)⟩)
  · rintro r st' ⟨a, rs, o, x2, x4, x5, x6, el, am, H, rfl, rfl, po⟩
    have ea : a = m := by
      have := congrArg List.length el
      rw [rgD_length] at this
      simp at this
      omega
    subst ea
    exists 4
    refine ⟨by unfold rfs; simp; omega, ?_⟩
    refine compL_gen (fun u : Nat => D.ref (st.length + u)) (fun u : Nat => rowD (sortI (rs.getD u []))) (List.range a) [] (fun u hu Q' k => k _ fun Q2 q2 => ?_) ?_
    · have hu2 : u < rs.length := by rw [H.len]; exact List.mem_range.mp hu
      have few := H.few (List.mem_range.mp hu)
      exists 4
      refine sort_ev (seq_ref (own_rowA hu2)) (by omega) ?_
      exact q2
    · refine tuple_end ?_
      rw [List.nil_append, sorted_rows H.len]
      have tb : Tb a (rs.map sortI) := H.tb (fun x y hx hy ne => by unfold Dm; omega) (fun x h => by unfold Dm at h; omega)
      exact rt_drop List.length_set (by simp only [DL.clo]; exact clos_rows _ _) (cs_set po) (q _ o tb (po.less (by omega)))
theorem sort_pair {a b c d : Int} : sortI [a, b] = sortI [c, d] ↔ (a = c ∧ b = d) ∨ (a = d ∧ b = c) := by
  constructor
  · intro e
    have p : [a, b].Perm [c, d] := (sortI_perm [a, b]).symm.trans (e ▸ sortI_perm [c, d])
    have ma := p.mem_iff (a := a)
    simp only [List.mem_cons, List.not_mem_nil, or_false, true_or, true_iff] at ma
    rcases ma with rfl | rfl
    · have z := List.Perm.cons_inv p
      exact .inl ⟨rfl, by simpa using z⟩
    · have z := List.Perm.cons_inv (p.trans (List.Perm.swap _ _ []))
      exact .inr ⟨rfl, by simpa using z⟩
  · rintro (⟨rfl, rfl⟩ | ⟨rfl, rfl⟩)
    · rfl
    · exact sort_perm (List.Perm.swap _ _ [])
def cutPair (t : List (List Int)) (a b : Nat) (x : Nat) : List Int := (t.getD x []).filter fun y => !decide (sortI [(x : Int), y] = sortI [(a : Int), (b : Int)])
def Et (a b x y : Nat) : Prop := x ≠ y ∧ ¬ ((x = a ∧ y = b) ∨ (x = b ∧ y = a))
theorem cutPair_half {m : Nat} {t : List (List Int)} (tb : Tb m t) (a b : Nat) : HalfR m (Et a b) ((List.range m).map (cutPair t a b)) := by
  have g : ∀ x, x < m → ((List.range m).map (cutPair t a b)).getD x [] = cutPair t a b x := fun x hx => by
    rw [List.getD_eq_getElem?_getD, List.getElem?_map, List.getElem?_range hx]
    rfl
  have mem : ∀ x y : Nat, (y : Int) ∈ cutPair t a b x ↔ (y : Int) ∈ t.getD x [] ∧ ¬ ((x = a ∧ y = b) ∨ (x = b ∧ y = a)) := fun x y => by
    unfold cutPair
    rw [List.mem_filter, Bool.not_eq_true', decide_eq_false_iff_not, sort_pair]
    have : (((x : Int) = (a : Int) ∧ (y : Int) = (b : Int)) ∨ ((x : Int) = (b : Int) ∧ (y : Int) = (a : Int))) ↔ ((x = a ∧ y = b) ∨ (x = b ∧ y = a)) := by omega
    rw [this]
  refine ⟨by simp, fun x hx => ?_, fun x hx z hz => ?_, fun x y hx hy e => ?_⟩
  · rw [g x hx]
    unfold cutPair
    have nd : (t.getD x []).Nodup := (tb.asc x hx).imp fun h => by omega
    exact nd.sublist List.filter_sublist
  · rw [g x hx] at hz
    have hz2 := hz
    unfold cutPair at hz
    have zr := tb.inr x hx z (List.mem_filter.mp hz).1
    obtain ⟨y, rfl⟩ : ∃ y : Nat, z = (y : Int) := ⟨z.toNat, by omega⟩
    have w := (mem x y).mp hz2
    refine ⟨y, by omega, rfl, .inl ⟨fun e => ?_, w.2⟩⟩
    subst e
    have o := tb.one x x hx hx
    unfold dec at o
    rw [if_pos rfl, decide_eq_true w.1] at o
    cases o
  · rw [g x hx, g y hy, mem, mem]
    have o := tb.dec2 hx hy e.1
    unfold Beats at o
    have e2 := e.2
    have e3 : ¬ ((y = a ∧ x = b) ∨ (y = b ∧ x = a)) := by omega
    constructor
    · intro h1 h2
      exact o.mp h1.1 h2.1
    · intro h
      exact ⟨o.mpr fun z => h ⟨z, e3⟩, e2⟩
theorem sm_pairL (a b : Nat) (ha : a ≤ 60) (hb : b ≤ 60) : Sm 1 47 (.lst ((sortI [(a : Int), (b : Int)]).map D.int)) := by
  refine sm_lst (k := 0) (c := 20) (m := 2) (fun d hd => ?_) (by rw [List.length_map, (sortI_perm _).length_eq]; simp)
  obtain ⟨i, hi, rfl⟩ := List.mem_map.mp hd
  have := (sortI_perm _).mem_iff.mp hi
  simp only [List.mem_cons, List.not_mem_nil, or_false] at this
  exact sm_int (by omega) (by omega)
theorem ne_lists {st : DSt} {k c : Nat} {ns ms : List Int} {Q : DK} (s1 : Sm k c (.lst (ns.map D.int))) (s2 : Sm k c (.lst (ms.map D.int))) (hk : k ≤ 50) (q : Q (.bl (!decide (ns = ms))) st) : dEqG true (.lst (ns.map D.int)) (.lst (ms.map D.int)) st Q := by
  have t1 : ∀ xs : List Int, pdT (.lst (xs.map D.int)) = some (.list (xs.map PyData.int)) := fun xs => by simp [pdT, pdTs_ints]
  obtain ⟨p1, e1, el1⟩ := s1
  obtain ⟨p2, e2, el2⟩ := s2
  rw [t1] at e1 e2
  have f1 := Option.some.inj e1
  have f2 := Option.some.inj e2
  subst f1
  subst f2
  have u1 : ∀ xs : List Int, pdS st (.lst (xs.map D.int)) = some (.list (xs.map PyData.int)) := fun xs => by rw [← t1]; rfl
  show dEqD true (.lst (ns.map D.int)) (.lst (ms.map D.int)) st Q
  unfold dEqD
  rw [u1, u1]
  refine ⟨⟨Sm.shaped el1 hk, Sm.shaped el2 hk⟩, ?_⟩
  have ev : PyData.eqv (.list (ns.map PyData.int)) (.list (ms.map PyData.int)) = decide (ns = ms) := by simp only [PyData.eqv, eqv_ints]
  rw [ev]
  exact q
end DL
namespace DL
open PySem PySem.Spec PyProof.Rows L2 LamX PySem.W SL
def g_turnT : DRs := fun ds st Q => ∃ (p k m : Nat) (t : List (List Int)), ds = [.ref p, rowsD t] ∧ Pot (k + 100) p st ∧ m ≤ 16 ∧ Tb m t ∧ ∀ (t' : List (List Int)) (o : O), Tb m t' → PotO k o → Q (rowsD t') (st.set p o)
theorem ar_turnT (ds : List D) (st : DSt) (Q : DK) (h : g_turnT ds st Q) : ds.length = 2 := by
  obtain ⟨_, _, _, _, rfl, _⟩ := h
  rfl
theorem two_of {m : Nat} {ns : List Int} (o : Ord m ns) (m2 : 2 ≤ m) : ∃ (a b : Nat) (t : List Int), ns = (a : Int) :: (b : Int) :: t ∧ a < m ∧ b < m ∧ a ≠ b := by
  have l2 := o.len
  obtain ⟨x, y, t, rfl⟩ : ∃ x y t, ns = x :: y :: t := by
    match ns, l2 with
    | [], l2 => simp at l2; omega
    | [_], l2 => simp at l2; omega
    | x :: y :: t, _ => exact ⟨x, y, t, rfl⟩
  have xm := (o.mem (x := x)).mp (by simp)
  have ym := (o.mem (x := y)).mp (by simp)
  have xy : x ≠ y := fun e => by
    have := o.nd
    rw [e] at this
    simp at this
  refine ⟨x.toNat, y.toNat, t, ?_, by omega, by omega, by omega⟩
  rw [show ((x.toNat : Nat) : Int) = x by omega, show ((y.toNat : Nat) : Int) = y by omega]
set_option maxHeartbeats 8000000 in
theorem sem_turnT (ds : List D) (st : DSt) (Q : DK) (h : g_turnT ds st Q) : F__law_turned g_mixed { nx := fun _ st' => Rt st Q .non st', rt := Rt st Q } (startD 12 ds) st := by
  obtain ⟨p, k, m, t, rfl, pot, m16, tb, q⟩ := h
  have lt := pot.lt
  obtain ⟨o0, e0, po0⟩ := pot
  have st12 : startD 12 [D.ref p, rowsD t] = [some (.ref p), some (.tup (t.map rowD)), none, none, none, none, none, none, none, none, none, none] := rfl
  have big : (1000 : Nat) ≤ sizeLine := by decide
  have tl := tb.len
  simp only [F__law_turned, st12]
  try dsimp only
  rw [e_seq]
  try simp only [e_var, e_C, e_op, e_neg, e_isN, e_notN, e_and, e_or, e_not, e_test, e_tAnd, e_tOr, e_tNot, e_tYes, e_if, e_aNil, e_aCons, e_tup, e_lst, e_lstN, e_len0, e_len1, e_len2, e_len3, e_len4, e_len5, e_cb, e_on1, e_on2, e_onI, e_onB, e_onO, e_onO0, e_onOO, e_I0, e_I, e_add, e_addT, e_addS, e_addL, e_addLR, e_addRL, e_addRR, e_mul, e_mulL, e_mulT, e_rev, e_revT, e_ix, e_eqI, e_eqS, e_eqB, e_neI, e_neS, e_neB, e_ltI, e_chain, e_len, e_abs, e_2I, e_tuple1, e_tuple2, e_tuple3, e_listT, e_listN, e_allR, e_seqT, e_seqK, e_seqL, e_isi, e_isB, e_notB, e_truth, e_next, e_drop, e_ret, e_retN, e_ifS, e_set, e_asg, e_par, e_nm, e_gsN, e_gsC, e_gTpK, e_gTpL, e_sum, e_maxL, e_minL, e_maxDef, e_int, e_intB, e_aug, e_on3, e_par3, e_newK, e_getK, e_keyI, e_keyS, e_inK, e_ninK, e_putK, e_lenK, e_lstS, e_seqX, e_gTpT, e_oN, e_oS, e_sl, e_slT, e_slL, e_finT, e_finN, e_index, e_idxT, e_idxL, e_mIx, e_ixST, e_ixSL, e_mtL, e_w, e_w1, e_w2, e_wE, e_wZ, e_itK, e_itT, e_itL, e_itT2, e_itL2, e_lc, e_for, e_wipe0, e_wipe, e_okI, e_okR, e_gSb, List.getElem?_cons_zero, List.getElem?_cons_succ, List.set_cons_zero, List.set_cons_succ, List.length_map, tl]
  by_cases m2 : m < 2
  · refine iteT' (decide_eq_true (by omega)) ?_
    exists 4
    have z := q t o0 tb (po0.less (by omega))
    rw [set_same e0] at z
    exact .inl z
  refine iteF' (decide_eq_false (by omega)) ?_
  try dsimp only
  rw [e_seq]
  exists 4
  unfold dLRg1
  try simp only [e_var, e_C, e_op, e_neg, e_isN, e_notN, e_and, e_or, e_not, e_test, e_tAnd, e_tOr, e_tNot, e_tYes, e_if, e_aNil, e_aCons, e_tup, e_lst, e_lstN, e_len0, e_len1, e_len2, e_len3, e_len4, e_len5, e_cb, e_on1, e_on2, e_onI, e_onB, e_onO, e_onO0, e_onOO, e_I0, e_I, e_add, e_addT, e_addS, e_addL, e_addLR, e_addRL, e_addRR, e_mul, e_mulL, e_mulT, e_rev, e_revT, e_ix, e_eqI, e_eqS, e_eqB, e_neI, e_neS, e_neB, e_ltI, e_chain, e_len, e_abs, e_2I, e_tuple1, e_tuple2, e_tuple3, e_listT, e_listN, e_allR, e_seqT, e_seqK, e_seqL, e_isi, e_isB, e_notB, e_truth, e_next, e_drop, e_ret, e_retN, e_ifS, e_set, e_asg, e_par, e_nm, e_gsN, e_gsC, e_gTpK, e_gTpL, e_sum, e_maxL, e_minL, e_maxDef, e_int, e_intB, e_aug, e_on3, e_par3, e_newK, e_getK, e_keyI, e_keyS, e_inK, e_ninK, e_putK, e_lenK, e_lstS, e_seqX, e_gTpT, e_oN, e_oS, e_sl, e_slT, e_slL, e_finT, e_finN, e_index, e_idxT, e_idxL, e_mIx, e_ixST, e_ixSL, e_mtL, e_w, e_w1, e_w2, e_wE, e_wZ, e_itK, e_itT, e_itL, e_itT2, e_itL2, e_lc, e_for, e_wipe0, e_wipe, e_okI, e_okR, e_gSb, List.getElem?_cons_zero, List.getElem?_cons_succ, List.set_cons_zero, List.set_cons_succ, List.length_map, tl, Int.toNat_natCast]
  refine ⟨RgOk.of_le (by decide) (by omega) (by decide) (by omega), mixed_rg (k := k) (by omega) ⟨o0, e0, po0.less (by omega)⟩ fun ns o1 on po1 => ?_⟩
  obtain ⟨a, b, tn, rfl, am, bm, ab⟩ := two_of on (by omega)
  have ct : cutD (((a : Int) :: (b : Int) :: tn).map D.int) none (some 2) = [.int a, .int b] := cutH _ 2
  exists 4, ct
  refine ⟨rfl, ?_⟩
  try dsimp only
  rw [e_seq]
  exists 4
  have e2 : [D.int (a : Nat), D.int (b : Nat)] = [(a : Int), (b : Int)].map D.int := rfl
  rw [e2]
  refine sort_ev rfl (by simp) ?_
  refine fin_lst ?_
  exists 4
  refine ⟨rfl, ?_⟩
  rw [List.length_set]
  try dsimp only
  rw [e_seq]
  exists 4
  refine for_inv (fun left r st' => ∃ (c : Nat) (x6 x7 : Option D), left = (enumD (t.map rowD)).drop c ∧ c ≤ m ∧ r = [some (.ref p), some (.tup (t.map rowD)), some (.int (a : Nat)), some (.int (b : Nat)), some (.lst ((sortI [(a : Int), (b : Int)]).map D.int)), some (.ref st.length), x6, x7, none, none, none, none] ∧ st' = st.set p o1 ++ (.lst (rfs (st.length + 1) c) :: ((List.range c).map (cutPair t a b)).map rowO)) ?_ ?_ _ _ _ ⟨0, _, _, rfl, by omega, rfl, rfl⟩
  · rintro d left r st' N hN ⟨c, x6, x7, el, cm, rfl, rfl⟩
    obtain ⟨x, ex, rfl, e3⟩ := enum_dropG el
    have lc : c < t.length := by
      have := (List.getElem?_eq_some_iff.mp ex).1
      rw [List.length_map] at this
      exact this
    have cx : x = .tup ((t.getD c []).map D.int) := by
      rw [List.getElem?_map, List.getElem?_eq_getElem lc] at ex
      have ex' : rowD t[c] = x := Option.some.inj ex
      rw [← ex', List.getD_eq_getElem?_getD, List.getElem?_eq_getElem lc]
      rfl
    subst cx
    have few : (t.getD c []).length ≤ m := by
      have z := sub_len (xs := t.getD c []) (ys := DL.R m) ((tb.asc c (by omega)).imp fun h => by omega) fun x hx => by
        have := tb.inr c (by omega) x hx
        rw [R_mem]
        omega
      rw [R_length] at z
      exact z
    exists 4
    refine ⟨rfl, ?_⟩
    have ow : (st.set p o1 ++ (O.lst (rfs (st.length + 1) c) :: ((List.range c).map (cutPair t a b)).map rowO))[st.length]? = some (.lst (rfs (st.length + 1) c)) := own0
    exists 4
    refine ⟨by unfold LstD; simp only [ow], by rw [List.length_map]; omega, ?_⟩
    refine compS (.inl rfl) D.int (fun y => !decide (sortI [(c : Int), y] = sortI [(a : Int), (b : Int)])) D.int (t.getD c []) [] (fun y hy Q' k => k _ (fun Q2 q2 => ?_) fun _ Q2 q2 => ?_) ?_
    · exists 4
      have yr := tb.inr c (by omega) y hy
      obtain ⟨y', rfl⟩ : ∃ y' : Nat, y = (y' : Int) := ⟨y.toNat, by omega⟩
      have e2 : [D.int (c : Nat), D.int ((y' : Nat) : Int)] = [(c : Int), ((y' : Nat) : Int)].map D.int := rfl
      rw [e2]
      refine sort_ev rfl (by simp) ?_
      refine fin_lst ?_
      refine ne_lists (sm_pairL c y' (by omega) (by omega)) (sm_pairL a b (by omega) (by omega)) (by decide) ?_
      exact q2
    · exists 4
      exact q2
    exists 4
    rw [List.nil_append]
    have ll : (st.set p o1 ++ (O.lst (rfs (st.length + 1) c) :: ((List.range c).map (cutPair t a b)).map rowO)).length = st.length + 1 + c := by simp; omega
    rw [ll]
    have ow2 : ∀ y : O, ((st.set p o1 ++ (O.lst (rfs (st.length + 1) c) :: ((List.range c).map (cutPair t a b)).map rowO)) ++ [y])[st.length]? = some (.lst (rfs (st.length + 1) c)) := fun y => by
      rw [List.getElem?_append_left (by rw [ll]; omega)]
      exact ow
    refine append_ref (ow2 _) (by unfold rfs; simp; omega) ?_
    refine hN _ _ (.inl ⟨c + 1, _, _, e3, by omega, rfl, ?_⟩)
    rw [List.append_assoc, List.cons_append, List.set_append_right _ _ (by rw [List.length_set]; exact Nat.le_refl _), List.length_set, Nat.sub_self, List.set_cons_zero, List.range_succ, List.map_append, List.map_append]
    unfold rfs
    rw [List.range_succ, List.map_append]
    rfl
  · rintro r st' ⟨c, x6, x7, el, cm, rfl, rfl⟩
    have ec : c = m := by
      have := congrArg List.length el
      rw [List.length_drop, enumD_length, List.length_map] at this
      simp at this
      omega
    subst ec
    have H := cutPair_half tb a b
    generalize hrs : (List.range c).map (cutPair t a b) = rs at H
    have ta : atI (t.map rowD) (a : Int) = some (.tup ((t.getD a []).map D.int)) := rows_at (by omega)
    have ow : ∀ rs : List (List Int), (st.set p o1 ++ (O.lst (rfs (st.length + 1) c) :: rs.map rowO))[st.length]? = some (.lst (rfs (st.length + 1) c)) := fun _ => own0
    have fin : ∀ (u v : Nat), ((u = a ∧ v = b) ∨ (u = b ∧ v = a)) → (sSeq (sSet 10 (dOp dIx (dVar 5) (dVar 8))) (sSeq (sDrop (dMtL mAppend (dVar 10) (daCons (dVar 9) daNil))) (sRet (dCB dTuple (daCons (dLcG (wSeq (dVar 5)) (gNm 7) dtYes (dCB dTuple (daCons (dCB (dSortI finT) (daCons (dVar 7) daNil)) daNil)) [7] finT) daNil))))) { nx := fun _ st' => Rt st Q .non st', rt := Rt st Q } [some (.ref p), some (.tup (t.map rowD)), some (.int (a : Nat)), some (.int (b : Nat)), some (.lst ((sortI [(a : Int), (b : Int)]).map D.int)), some (.ref st.length), x6, x7, some (.int (u : Nat)), some (.int (v : Nat)), none, none] (st.set p o1 ++ (.lst (rfs (st.length + 1) c) :: rs.map rowO)) := fun u v uv => by
      have hu : u < c := by omega
      have hu2 : u < rs.length := by rw [H.len]; exact hu
      have few := H.few hu
      have H2 := H.step (a := a) (b := b) (u := u) (v := v) ab am bm (fun z => by unfold Et at z; omega) (fun z => by unfold Et at z; omega) uv
      try dsimp only
      rw [e_seq]
      exists 4, seq_ref (ow rs), rfs_at hu
      try dsimp only
      rw [e_seq]
      exists 4
      refine ⟨by unfold LstD; simp only [own_row hu2], append_ref (own_row hu2) (by rw [List.length_map]; omega) ?_⟩
      have ea : (rs.getD u []).map D.int ++ [D.int (v : Nat)] = (rs.getD u [] ++ [(v : Int)]).map D.int := by rw [List.map_append]; rfl
      rw [ea, put_row]
      generalize rs.set u (rs.getD u [] ++ [(v : Int)]) = rs2 at H2
      exists 4
      rw [itL_ref (ow rs2)]
      exists 4
      refine ⟨by unfold rfs; simp; omega, ?_⟩
      refine compS (.inr ⟨_, _, rfl, ow rs2⟩) (fun u : Nat => D.ref (st.length + 1 + u)) (fun _ => true) (fun u : Nat => rowD (sortI (rs2.getD u []))) (List.range c) [] (fun u hu Q' k => k _ (fun Q2 q2 => q2) fun _ Q2 q2 => ?_) ?_
      · have hu2 : u < rs2.length := by rw [H2.len]; exact List.mem_range.mp hu
        have few := H2.few (List.mem_range.mp hu)
        exists 4
        refine sort_ev (seq_ref (own_row hu2)) (by omega) ?_
        exact q2
      · refine tuple_end ?_
        rw [List.nil_append, List.filter_eq_self.mpr (fun _ _ => rfl), sorted_rows H2.len]
        have tb2 : Tb c (rs2.map sortI) := H2.tb (fun x y hx hy ne => by unfold Et; omega) (fun x h => by unfold Et at h; omega)
        exact rt_drop List.length_set (by simp only [DL.clo]; exact clos_rows _ _) (cs_set po1) (q _ o1 tb2 po1)
    try dsimp only
    rw [e_seq]
    exists 4, ta
    refine in_ints ?_
    exists 4
    by_cases z : (b : Int) ∈ t.getD a []
    · refine iteT' (decide_eq_true z) ?_
      exists 4
      refine ⟨rfl, ?_⟩
      exact fin b a (.inr ⟨rfl, rfl⟩)
    · refine iteF' (decide_eq_false z) ?_
      exists 4
      refine ⟨rfl, ?_⟩
      exact fin a b (.inl ⟨rfl, rfl⟩)
def g_table69 : DRs := fun ds st Q => ∃ (p k m : Nat), ds = [.ref p, .int (m : Nat)] ∧ Pot (k + 400) p st ∧ m ≤ 16 ∧ ∀ (t : List (List Int)) (o : O), Tb m t → PotO k o → Q (rowsD t) (st.set p o)
theorem ar_table69 (ds : List D) (st : DSt) (Q : DK) (h : g_table69 ds st Q) : ds.length = 2 := by
  obtain ⟨_, _, _, rfl, _⟩ := h
  rfl
theorem rt_set {st : DSt} {p k : Nat} {o : O} {d : D} {Q : DK} (c : clo st.length d = true) (po : PotO k o) (q : Q d (st.set p o)) : Rt st Q d (st.set p o) := by
  have z := rt_drop (junk := []) List.length_set c (cs_set (m := st.length) po) q
  rw [List.append_nil] at z
  exact z
theorem sem_table69 (ds : List D) (st : DSt) (Q : DK) (h : g_table69 ds st Q) : F__law_table g_take g_mixed g_tabOfL g_anyT g_turnT { nx := fun _ st' => Rt st Q .non st', rt := Rt st Q } (startD 4 ds) st := by
  obtain ⟨p, k, m, rfl, pot, m16, q⟩ := h
  have lt := pot.lt
  have st4 : startD 4 [D.ref p, D.int (m : Nat)] = [some (.ref p), some (.int (m : Nat)), none, none] := rfl
  simp only [F__law_table, st4]
  try dsimp only
  rw [e_seq]
  exists 4
  refine take_ev (n := k + 399) pot (by decide) (by decide) fun w o1 lw po1 => ?_
  try dsimp only
  rw [e_seq]
  exists 4
  by_cases w0 : w = 0
  · refine iteT' (decide_eq_true (by omega)) ?_
    exists 4
    refine ⟨p, k, m, rfl, (Pot.set lt po1).less (by omega), m16, fun t o tb po => ?_⟩
    rw [List.set_set]
    exact rt_set (clos_rows _ _) po (q t o tb po)
  · refine iteF' (decide_eq_false (by omega)) ?_
    try dsimp only
    rw [e_seq]
    exists 4
    unfold dLRg1
    exists 4, Int.toNat_natCast
    refine ⟨RgOk.of_le (by decide) (by omega) (by decide) (by omega), mixed_rg (k := k + 300) (by omega) ((Pot.set lt po1).less (by omega)) fun ns o2 on po2 => ?_⟩
    rw [List.set_set]
    refine ⟨m, ns, rfl, on, by omega, ?_⟩
    exists 4
    by_cases w1 : w = 1
    · refine iteT' (decide_eq_true (by omega)) ?_
      refine ⟨p, k, m, ordT ns, rfl, (Pot.set lt po2).less (by omega), m16, on.tb, fun t o tb po => ?_⟩
      rw [List.set_set]
      exact rt_set (clos_rows _ _) po (q t o tb po)
    · refine iteF' (decide_eq_false (by omega)) ?_
      exact rt_set (clos_rows _ _) po2 (q _ o2 on.tb (po2.less (by omega)))
end DL
namespace DL
open PySem PySem.Spec PyProof.Rows L2 LamX PySem.W SL
def F__law_setting_v4 (g__law_mixed : DRs) (g__law_probe : DRs) (g__law_ordered_table : DRs) (g__law_table : DRs) : DTS := (sSeq (sSet 4 (dLcG (wRng1 (daCons (dVar 1) daNil)) (gNm 6) dtYes (dCB g__law_probe (daCons (dVar 0) (daCons (dVar 2) daNil))) [6] finT)) (sSeq (sIf (dTest (dVar 3)) (sSet 5 (dLcG (wRng1 (daCons (dVar 2) daNil)) (gNm 7) dtYes (dCB g__law_ordered_table (daCons (dCB g__law_mixed (daCons (dVar 0) (daCons (dLRg1 finT (dVar 1)) daNil))) daNil)) [7] finT)) (sSet 5 (dLcG (wRng1 (daCons (dVar 2) daNil)) (gNm 7) dtYes (dCB g__law_table (daCons (dVar 0) (daCons (dVar 1) daNil))) [7] finT))) (sRet (dTup (daCons (dCB dTuple (daCons (dVar 4) daNil)) (daCons (dCB dTuple (daCons (dVar 5) daNil)) daNil))))))
end DL
--ELX
--ELT
--ELO
--ELP
--ELQ
--ELR
--ELS
--ELU
namespace DL
open PySem PySem.Spec PyProof.Rows L2 LamX PySem.W SL
def g_set45 : DRs := fun ds st Q => ∃ (p k m n : Nat) (b : Bool), ds = [.ref p, .int (m : Nat), .int (n : Nat), .bl b] ∧ Pot (k + 8000) p st ∧ 1 ≤ m ∧ m ≤ 16 ∧ 1 ≤ n ∧ n ≤ 16 ∧ ∀ (P : List (List Int)) (R : List (List (List Int))) (o : O), Setg m n P R → PotO k o → Q (.tup [rowsD P, tabsD R]) (st.set p o)
theorem ar_set45 (ds : List D) (st : DSt) (Q : DK) (h : g_set45 ds st Q) : ds.length = 4 := by
  obtain ⟨_, _, _, _, _, rfl, _⟩ := h
  rfl
set_option maxHeartbeats 2000000 in
theorem sem_set45 (ds : List D) (st : DSt) (Q : DK) (h : g_set45 ds st Q) : F__law_setting_v4 g_mixed g_probe g_tabOfL g_table69 { nx := fun _ st' => Rt st Q .non st', rt := Rt st Q } (startD 8 ds) st := by
  obtain ⟨p, k, m, n, b, rfl, pot, m1, m16, n1, n16, q⟩ := h
  have lt := pot.lt
  have st8 : startD 8 [D.ref p, D.int (m : Nat), D.int (n : Nat), D.bl b] = [some (.ref p), some (.int (m : Nat)), some (.int (n : Nat)), some (.bl b), none, none, none, none] := rfl
  have big : (1000 : Nat) ≤ sizeLine := by decide
  obtain ⟨o0, eo0, po0⟩ := pot
  have s0 : st = st.set p o0 := (set_same eo0).symm
  simp only [F__law_setting_v4, st8]
  try dsimp only
  rw [e_seq]
  exists 1, Int.toNat_natCast
  refine ⟨⟨by omega, by omega⟩, by rw [rgD_length]; omega, ?_⟩
  refine compL_inv m (fun c acc st2 => ∃ (Ps : List (List Int)) (o : O), acc = Ps.map rowD ∧ Ps.length = c ∧ (∀ x ∈ Ps, Ord n x) ∧ st2 = st.set p o ∧ PotO (k + 7400 + (m - c) * 20) o) (fun c d acc st2 Nx lc w hNx => ?_) ?_ _ [] 0 _ (by rw [rgD_length]; omega) ⟨[], o0, rfl, rfl, fun x hx => (by cases hx), s0, po0.less (by omega)⟩
  · obtain ⟨Ps, o, rfl, lPs, oPs, rfl, po⟩ := w
    exists 1
    have ar : (m - c) * 20 = (m - (c + 1)) * 20 + 20 := by omega
    refine ⟨p, n, k + 7400 + (m - (c + 1)) * 20, rfl, by omega, by omega, Pot.set lt (po.less (by omega)), fun ns o2 on po2 => ?_⟩
    rw [List.set_set]
    refine hNx _ _ ⟨Ps ++ [ns], o2, by rw [List.map_append]; rfl, by rw [List.length_append, lPs]; rfl, fun x hx => ?_, rfl, po2⟩
    rcases List.mem_append.mp hx with z | z
    · exact oPs x z
    · rw [List.mem_singleton.mp z]; exact on
  · rintro acc st2 ⟨P, o, rfl, lP, oP, rfl, po⟩
    have main : ∀ (R : List (List (List Int))) (o : O), R.length = n → (∀ t ∈ R, Tb m t) → PotO k o → Rt st Q (.tup [.tup (P.map rowD), .tup (R.map rowsD)]) (st.set p o) := fun R o lR oR po => .inl (q P R o ⟨lP, oP, lR, oR⟩ po)
    refine fin_lst ?_
    try dsimp only
    rw [e_seq]
    exists 1
    cases b with
    | true =>
      rw [if_pos rfl]
      exists 1, Int.toNat_natCast
      refine ⟨⟨by omega, by omega⟩, by rw [rgD_length]; omega, ?_⟩
      refine compL_inv n (fun c acc st2 => ∃ (os : List (List Int)) (o : O), acc = (os.map DL.ordT).map rowsD ∧ os.length = c ∧ (∀ x ∈ os, Ord m x) ∧ st2 = st.set p o ∧ PotO (k + (n - c) * 20) o) (fun c d acc st2 Nx lc w hNx => ?_) ?_ _ [] 0 _ (by rw [rgD_length]; omega) ⟨[], o, rfl, rfl, fun x hx => (by cases hx), rfl, po.less (by omega)⟩
      · obtain ⟨os, o, rfl, lo, oo, rfl, po⟩ := w
        have ar : (n - c) * 20 = (n - (c + 1)) * 20 + 20 := by omega
        exists 1
        unfold dLRg1
        exists 1
        refine ⟨RgOk.of_le (by decide) (by omega) (by decide) (by omega), p, _, rgD 0 m, k + (n - (c + 1)) * 20, rfl, rfl, (fun z => by cases z), by rw [rgD_length]; omega, fun d hd => ?_, by
          rw [rgD_length]
          exact Pot.set lt (po.less (by omega)), fun ys o1 pm po1 => ?_⟩
        · obtain ⟨i, li, rfl⟩ := rgD_mem hd
          exact (sm_int (by omega) (by omega)).mono (by decide) (by decide)
        obtain ⟨ord, rfl, oo1⟩ := mixed_ord pm
        rw [List.set_set]
        refine ⟨m, ord, rfl, oo1, by omega, ?_⟩
        refine hNx _ _ ⟨os ++ [ord], o1, by rw [List.map_append, List.map_append]; rfl, by rw [List.length_append, lo]; rfl, fun x hx => ?_, rfl, po1⟩
        rcases List.mem_append.mp hx with z | z
        · exact oo x z
        · rw [List.mem_singleton.mp z]; exact oo1
      · rintro acc st2 ⟨os, o, rfl, lo, oo, rfl, po⟩
        refine fin_lst ?_
        exists 1
        exact main (os.map DL.ordT) o (by rw [List.length_map, lo]) (fun t ht => by obtain ⟨y, hy, rfl⟩ := List.mem_map.mp ht; exact (oo y hy).tb) (po.less (by omega))
    | false =>
      rw [if_neg (by decide)]
      exists 1, Int.toNat_natCast
      refine ⟨⟨by omega, by omega⟩, by rw [rgD_length]; omega, ?_⟩
      refine compL_inv n (fun c acc st2 => ∃ (R : List (List (List Int))) (o : O), acc = R.map rowsD ∧ R.length = c ∧ (∀ t ∈ R, Tb m t) ∧ st2 = st.set p o ∧ PotO (k + (n - c) * 400) o) (fun c d acc st2 Nx lc w hNx => ?_) ?_ _ [] 0 _ (by rw [rgD_length]; omega) ⟨[], o, rfl, rfl, fun x hx => (by cases hx), rfl, po.less (by omega)⟩
      · obtain ⟨R, o, rfl, lR, oR, rfl, po⟩ := w
        have ar : (n - c) * 400 = (n - (c + 1)) * 400 + 400 := by omega
        exists 1
        refine ⟨p, k + (n - (c + 1)) * 400, m, rfl, Pot.set lt (po.less (by omega)), by omega, fun t o1 tb po1 => ?_⟩
        rw [List.set_set]
        refine hNx _ _ ⟨R ++ [t], o1, by rw [List.map_append]; rfl, by rw [List.length_append, lR]; rfl, fun x hx => ?_, rfl, po1⟩
        rcases List.mem_append.mp hx with z | z
        · exact oR x z
        · rw [List.mem_singleton.mp z]; exact tb
      · rintro acc st2 ⟨R, o, rfl, lR, oR, rfl, po⟩
        refine fin_lst ?_
        exists 1
        exact main R o lR oR (po.less (by omega))
end DL
--ELX
--ELT
--ELO
--ELP
--ELQ
--ELR
--ELS
--ELU
namespace DL
open PySem PySem.Spec PyProof.Rows L2 LamX PySem.W SL
theorem sm_shw {m n : Nat} {P : List (List Int)} {R : List (List (List Int))} (X : Shw m n P R) : Sm 4 200000 (.tup [rowsD P, tabsD R]) := by
  have m16 := X.m16
  have n16 := X.n16
  have a : Sm 2 (16 * ((16 * 22 + 3) + 2) + 3) (rowsD P) := sm_rows (m := 16) (k := 16) (fun p hp => by
    obtain ⟨lp, hx⟩ := X.pr p hp
    exact ⟨fun x h => by have := hx x h; omega, by omega⟩) (by rw [X.S.pl]; exact m16)
  have b : Sm 3 91475 (tabsD R) := sm_tabs X.S.rt m16 (by rw [X.S.rl]; exact n16)
  have up : ∀ {k c : Nat} {d : D}, Sm k c d → k ≤ 3 → c ≤ 91475 → Sm 3 91475 d := fun ⟨p, e1, e2⟩ x y => ⟨p, e1, e2.mono x y⟩
  obtain ⟨p, e1, e2⟩ := sm_tup (k := 3) (c := 91475) (m := 2) (ds := [rowsD P, tabsD R]) (fun d hd => by
    simp only [List.mem_cons, List.not_mem_nil, or_false] at hd
    rcases hd with rfl | rfl
    · exact up a (by decide) (by decide)
    · exact b) (by simp)
  exact ⟨p, e1, e2.mono (by decide) (by decide)⟩
theorem Shw.ru {m n : Nat} {P : List (List Int)} {R : List (List (List Int))} (X : Shw m n P R) : Ru m R := ⟨by rw [X.S.rl]; exact X.n0, by rw [X.S.rl]; exact X.n16, X.m0, X.m16, X.S.rt⟩
def g_right45 : DRs := fun ds st Q => ∃ p k : Nat, ds = [.ref p] ∧ Pot (k + 50000) p st ∧ ∀ o : O, PotO k o → Q (.bl true) (st.set p o)
set_option maxHeartbeats 4000000 in
theorem sem_right45 (ds : List D) (st : DSt) (Q : DK) (h : g_right45 ds st Q) : F__law_right_v56 g_arePr g_ruleOk g_showS g_read g_take g_set45 g_showS { nx := fun _ st' => Rt st Q .non st', rt := Rt st Q } (startD 8 ds) st := by
  obtain ⟨p, K, rfl, pot, q⟩ := h
  have st8 : startD 8 [D.ref p] = [some (.ref p), none, none, none, none, none, none, none] := rfl
  have big : (100000 : Nat) ≤ sizeLine := by decide
  have lp := pot.lt
  obtain ⟨o0, eo0, po0⟩ := pot
  have s0 : st = st.set p o0 := (set_same eo0).symm
  simp only [F__law_right_v56, st8]
  try dsimp only
  rw [e_seq]
  exists 1
  refine ⟨by decide, ?_⟩
  refine for_inv (fun left r S => ∃ (o : O) (x1 x2 x3 x4 x5 x6 x7 : Option D), left.length ≤ 4 ∧ PotO (K + 10000 * left.length) o ∧ r = [some (.ref p), x1, x2, x3, x4, x5, x6, x7] ∧ S = st.set p o) ?_ ?_ _ _ _ ⟨o0, none, none, none, none, none, none, none, by rw [rgD_length]; decide, po0.less (by rw [rgD_length]; show K + 10000 * 4 ≤ _; omega), rfl, s0⟩
  · rintro d left r S N hN ⟨o, x1, x2, x3, x4, x5, x6, x7, l4, po, rfl, rfl⟩
    rw [List.length_cons] at l4 po
    exists 1
    try dsimp only
    rw [e_seq]
    exists 1
    refine ⟨p, 16, K + 10000 * left.length + 9000, rfl, Pot.set lp (po.less (by omega)), by decide, by decide, fun w o1 w0 w16 po1 => ?_⟩
    rw [List.set_set]
    exists 1
    refine ⟨p, 16, K + 10000 * left.length + 8999, rfl, Pot.set lp (po1.less (by omega)), by decide, by decide, fun v o2 v0 v16 po2 => ?_⟩
    rw [List.set_set]
    obtain ⟨m, rfl⟩ : ∃ m : Nat, w = (m : Int) := ⟨w.toNat, by omega⟩
    obtain ⟨n, rfl⟩ : ∃ n : Nat, v = (n : Int) := ⟨v.toNat, by omega⟩
    exists 1
    try dsimp only
    rw [e_seq]
    exists 1
    refine ⟨p, 2, K + 10000 * left.length + 8998, rfl, Pot.set lp (po2.less (by omega)), by decide, by decide, fun b o3 b0 b2 po3 => ?_⟩
    rw [List.set_set]
    exists 1
    refine ⟨p, K + 10000 * left.length, 1 + m, 1 + n, decide (b = 0), ?_, Pot.set lp (po3.less (by omega)), by omega, by omega, by omega, by omega, fun P R o4 S po4 => ?_⟩
    · rw [show (((1 + m : Nat)) : Int) = 1 + (m : Int) by omega, show (((1 + n : Nat)) : Int) = 1 + (n : Int) by omega]
    rw [List.set_set]
    have X : Shw (1 + m) (1 + n) P R := ⟨S, by omega, by omega, by omega, by omega⟩
    have sm := sm_shw X
    exists 1
    refine ⟨rfl, ?_⟩
    try dsimp only
    rw [e_seq]
    exists 1
    refine repr_txt sm (by simp) (by decide) (by decide) ?_
    exists 1
    refine ⟨_, _, P, R, rfl, X, ?_⟩
    try dsimp only
    rw [e_seq]
    exists 1
    refine ⟨_, _, P, R, rfl, X, ?_⟩
    exists 1
    refine iteF' (by simp) ?_
    refine ⟨rfl, _, _, P, R, rfl, X, ?_⟩
    exists 1
    refine iteF' (by simp) ?_
    try dsimp only
    rw [e_seq]
    exists 1
    refine ⟨_, _, P, R, rfl, X, ?_⟩
    refine repr_txt sm (by simp) (by decide) (by decide) ?_
    exists 1
    refine iteF' (by simp) ?_
    refine ⟨rfl, _, _, P, R, rfl, X, ?_⟩
    refine repr_txt sm (by simp) (by decide) (by decide) ?_
    exists 1
    refine iteF' (by simp) ?_
    try dsimp only
    rw [e_seq]
    exists 1
    refine ⟨_, _, P, R, rfl, X, ?_⟩
    have a0 : atI [rowsD P, tabsD R] 0 = some (rowsD P) := rfl
    have a1 : atI [rowsD P, tabsD R] 1 = some (tabsD R) := rfl
    exists 1, a0, a1
    refine ⟨1 + n, P, rfl, X.S.po, by rw [X.S.pl]; omega, by rw [X.S.pl]; omega, by omega, by omega, ?_⟩
    simp only [e_onB, Bool.not_true, Bool.false_eq_true, if_false]
    refine ⟨_, _, P, R, rfl, X, ?_⟩
    exists 1, a0, a1
    refine ⟨1 + m, R, rfl, X.ru, ?_⟩
    exists 1
    simp only [e_onB, Bool.not_true, Bool.false_eq_true, if_false]
    refine repr_txt sm (by simp) (by decide) (by decide) ?_
    exists 1
    refine iteF' (by simp) ?_
    exact hN _ _ (.inl ⟨o4, _, _, _, _, _, _, _, by omega, po4, rfl, rfl⟩)
  · rintro r S ⟨o, x1, x2, x3, x4, x5, x6, x7, _, po, rfl, rfl⟩
    exists 1
    exact .inl (q o (po.less (by omega)))
theorem sem_right45b (ds : List D) (st : DSt) (Q : DK) (h : g_right ds st Q) : F__law_right_v56 g_arePr g_ruleOk g_showS g_read g_take g_set45 g_showS { nx := fun _ st' => Rt st Q .non st', rt := Rt st Q } (startD 8 ds) st := by
  obtain ⟨p, rfl, pot, q⟩ := h
  exact sem_right45 _ st Q ⟨p, 0, rfl, pot.less (by decide), fun o po => q o po⟩
end DL
namespace DL.K45
open PySem PySem.Spec PyProof.Rows L2 LamX PySem.W SL
open DL
def topS (i : Nat) : Stmt := PySem.Challenge.pw_samelayout_k45_settings_written_and_read.main.body.getD i (.Pass ⟨0, 0, 0, 0⟩)
abbrev s_is_integer_within : Stmt := topS 4
abbrev n_is_integer_within : List Str := ["value", "low", "high"]
theorem sc_is_integer_within : FnScope n_is_integer_within ["value", "low", "high"] (defScope s_is_integer_within) := ⟨rfl, rfl, rfl, by decide +kernel, rfl, by decide +kernel, by decide +kernel⟩
abbrev s_are_integers_within : Stmt := topS 5
abbrev n_are_integers_within : List Str := ["value", "low", "high", "item"]
theorem sc_are_integers_within : FnScope n_are_integers_within ["value", "low", "high"] (defScope s_are_integers_within) := ⟨rfl, rfl, rfl, by decide +kernel, rfl, by decide +kernel, by decide +kernel⟩
abbrev s_is_probe_order : Stmt := topS 7
abbrev n_is_probe_order : List Str := ["count", "value", "slot"]
theorem sc_is_probe_order : FnScope n_is_probe_order ["count", "value"] (defScope s_is_probe_order) := ⟨rfl, rfl, rfl, by decide +kernel, rfl, by decide +kernel, by decide +kernel⟩
abbrev s_are_probes : Stmt := topS 10
abbrev n_are_probes : List Str := ["value", "slots", "order"]
theorem sc_are_probes : FnScope n_are_probes ["value"] (defScope s_are_probes) := ⟨rfl, rfl, rfl, by decide +kernel, rfl, by decide +kernel, by decide +kernel⟩
abbrev s_is_rule : Stmt := topS 11
abbrev n_is_rule : List Str := ["value", "keys", "table"]
theorem sc_is_rule : FnScope n_is_rule ["value"] (defScope s_is_rule) := ⟨rfl, rfl, rfl, by decide +kernel, rfl, by decide +kernel, by decide +kernel⟩
abbrev s_is_sized : Stmt := topS 12
abbrev n_is_sized : List Str := ["value"]
theorem sc_is_sized : FnScope n_is_sized ["value"] (defScope s_is_sized) := ⟨rfl, rfl, rfl, by decide +kernel, rfl, by decide +kernel, by decide +kernel⟩
abbrev s_is_table : Stmt := topS 13
abbrev n_is_table : List Str := ["keys", "value", "a", "b", "beaten"]
theorem sc_is_table : FnScope n_is_table ["keys", "value"] (defScope s_is_table) := ⟨rfl, rfl, rfl, by decide +kernel, rfl, by decide +kernel, by decide +kernel⟩
abbrev s_is_ascending : Stmt := topS 14
abbrev n_is_ascending : List Str := ["keys", "value", "key", "after"]
theorem sc_is_ascending : FnScope n_is_ascending ["keys", "value"] (defScope s_is_ascending) := ⟨rfl, rfl, rfl, by decide +kernel, rfl, by decide +kernel, by decide +kernel⟩
abbrev s_is_decided : Stmt := topS 15
abbrev n_is_decided : List Str := ["table", "a", "b"]
theorem sc_is_decided : FnScope n_is_decided ["table", "a", "b"] (defScope s_is_decided) := ⟨rfl, rfl, rfl, by decide +kernel, rfl, by decide +kernel, by decide +kernel⟩
abbrev s_show_setting : Stmt := topS 18
abbrev n_show_setting : List Str := ["probes", "rule", "lines", "order", "table", "slot", "beaten"]
theorem sc_show_setting : FnScope n_show_setting ["probes", "rule"] (defScope s_show_setting) := ⟨rfl, rfl, rfl, by decide +kernel, rfl, by decide +kernel, by decide +kernel⟩
abbrev s_show_keys : Stmt := topS 19
abbrev n_show_keys : List Str := ["keys", "between", "key"]
theorem sc_show_keys : FnScope n_show_keys ["keys", "between"] (defScope s_show_keys) := ⟨rfl, rfl, rfl, by decide +kernel, rfl, by decide +kernel, by decide +kernel⟩
abbrev s_read_setting : Stmt := topS 21
abbrev n_read_setting : List Str := ["source", "lines", "keys", "slots", "probes", "rule", "at"]
theorem sc_read_setting : FnScope n_read_setting ["source"] (defScope s_read_setting) := ⟨rfl, rfl, rfl, by decide +kernel, rfl, by decide +kernel, by decide +kernel⟩
abbrev s_require_string : Stmt := topS 22
abbrev n_require_string : List Str := ["source"]
theorem sc_require_string : FnScope n_require_string ["source"] (defScope s_require_string) := ⟨rfl, rfl, rfl, by decide +kernel, rfl, by decide +kernel, by decide +kernel⟩
abbrev s_sizes_in : Stmt := topS 23
abbrev n_sizes_in : List Str := ["line", "words", "keys", "slots"]
theorem sc_sizes_in : FnScope n_sizes_in ["line"] (defScope s_sizes_in) := ⟨rfl, rfl, rfl, by decide +kernel, rfl, by decide +kernel, by decide +kernel⟩
abbrev s_number_of : Stmt := topS 24
abbrev n_number_of : List Str := ["word", "low", "high", "number"]
theorem sc_number_of : FnScope n_number_of ["word", "low", "high"] (defScope s_number_of) := ⟨rfl, rfl, rfl, by decide +kernel, rfl, by decide +kernel, by decide +kernel⟩
abbrev s_probe_order_at : Stmt := topS 25
abbrev n_probe_order_at : List Str := ["lines", "at", "slots", "order", "word"]
theorem sc_probe_order_at : FnScope n_probe_order_at ["lines", "at", "slots"] (defScope s_probe_order_at) := ⟨rfl, rfl, rfl, by decide +kernel, rfl, by decide +kernel, by decide +kernel⟩
abbrev s_table_at : Stmt := topS 26
abbrev n_table_at : List Str := ["lines", "at", "keys", "table", "word"]
theorem sc_table_at : FnScope n_table_at ["lines", "at", "keys"] (defScope s_table_at) := ⟨rfl, rfl, rfl, by decide +kernel, rfl, by decide +kernel, by decide +kernel⟩
abbrev s_words_behind : Stmt := topS 27
abbrev n_words_behind : List Str := ["lines", "at", "first", "words"]
theorem sc_words_behind : FnScope n_words_behind ["lines", "at", "first"] (defScope s_words_behind) := ⟨rfl, rfl, rfl, by decide +kernel, rfl, by decide +kernel, by decide +kernel⟩
abbrev s_beaten_in : Stmt := topS 28
abbrev n_beaten_in : List Str := ["word", "keys", "part"]
theorem sc_beaten_in : FnScope n_beaten_in ["word", "keys"] (defScope s_beaten_in) := ⟨rfl, rfl, rfl, by decide +kernel, rfl, by decide +kernel, by decide +kernel⟩
abbrev s__law_pot : Stmt := topS 30
abbrev n__law_pot : List Str := ["_law_script", "_law_k", "_law_cell", "_law_great"]
theorem sc__law_pot : FnScope n__law_pot ["_law_script", "_law_k"] (defScope s__law_pot) := ⟨rfl, rfl, rfl, by decide +kernel, rfl, by decide +kernel, by decide +kernel⟩
abbrev s__law_take : Stmt := topS 31
abbrev n__law_take : List Str := ["_law_pot_here", "_law_size", "_law_digit", "_law_prime", "_law_mixed_here"]
theorem sc__law_take : FnScope n__law_take ["_law_pot_here", "_law_size"] (defScope s__law_take) := ⟨rfl, rfl, rfl, by decide +kernel, rfl, by decide +kernel, by decide +kernel⟩
abbrev s__law_pick : Stmt := topS 32
abbrev n__law_pick : List Str := ["_law_pot_here", "_law_some"]
theorem sc__law_pick : FnScope n__law_pick ["_law_pot_here", "_law_some"] (defScope s__law_pick) := ⟨rfl, rfl, rfl, by decide +kernel, rfl, by decide +kernel, by decide +kernel⟩
abbrev s__law_mixed : Stmt := topS 33
abbrev n__law_mixed : List Str := ["_law_pot_here", "_law_some", "_law_left", "_law_found"]
theorem sc__law_mixed : FnScope n__law_mixed ["_law_pot_here", "_law_some"] (defScope s__law_mixed) := ⟨rfl, rfl, rfl, by decide +kernel, rfl, by decide +kernel, by decide +kernel⟩
abbrev s__law_line : Stmt := topS 34
abbrev n__law_line : List Str := ["_law_size", "_law_begin", "_law_at"]
theorem sc__law_line : FnScope n__law_line ["_law_size", "_law_begin"] (defScope s__law_line) := ⟨rfl, rfl, rfl, by decide +kernel, rfl, by decide +kernel, by decide +kernel⟩
abbrev s__law_probe : Stmt := topS 35
abbrev n__law_probe : List Str := ["_law_pot_here", "_law_size"]
theorem sc__law_probe : FnScope n__law_probe ["_law_pot_here", "_law_size"] (defScope s__law_probe) := ⟨rfl, rfl, rfl, by decide +kernel, rfl, by decide +kernel, by decide +kernel⟩
abbrev s__law_ordered_table : Stmt := topS 36
abbrev n__law_ordered_table : List Str := ["_law_order", "_law_one"]
theorem sc__law_ordered_table : FnScope n__law_ordered_table ["_law_order"] (defScope s__law_ordered_table) := ⟨rfl, rfl, rfl, by decide +kernel, rfl, by decide +kernel, by decide +kernel⟩
abbrev s__law_any_table : Stmt := topS 37
abbrev n__law_any_table : List Str := ["_law_pot_here", "_law_size", "_law_one", "_law_rows", "_law_two", "_law_winner", "_law_beaten", "_law_row"]
theorem sc__law_any_table : FnScope n__law_any_table ["_law_pot_here", "_law_size"] (defScope s__law_any_table) := ⟨rfl, rfl, rfl, by decide +kernel, rfl, by decide +kernel, by decide +kernel⟩
abbrev s__law_turned : Stmt := topS 38
abbrev n__law_turned : List Str := ["_law_pot_here", "_law_table_here", "_law_one", "_law_two", "_law_pair", "_law_rows", "_law_at", "_law_row", "_law_winner", "_law_loser", "_law_beaten", "_law_near"]
theorem sc__law_turned : FnScope n__law_turned ["_law_pot_here", "_law_table_here"] (defScope s__law_turned) := ⟨rfl, rfl, rfl, by decide +kernel, rfl, by decide +kernel, by decide +kernel⟩
abbrev s__law_table : Stmt := topS 39
abbrev n__law_table : List Str := ["_law_pot_here", "_law_size", "_law_way", "_law_table_here"]
theorem sc__law_table : FnScope n__law_table ["_law_pot_here", "_law_size"] (defScope s__law_table) := ⟨rfl, rfl, rfl, by decide +kernel, rfl, by decide +kernel, by decide +kernel⟩
abbrev s__law_setting : Stmt := topS 40
abbrev n__law_setting : List Str := ["_law_pot_here", "_law_many", "_law_spots", "_law_is_even", "_law_some", "_law_rule_rows", "_law_one", "_law_spot"]
theorem sc__law_setting : FnScope n__law_setting ["_law_pot_here", "_law_many", "_law_spots", "_law_is_even"] (defScope s__law_setting) := ⟨rfl, rfl, rfl, by decide +kernel, rfl, by decide +kernel, by decide +kernel⟩
abbrev s__law_text : Stmt := topS 41
abbrev n__law_text : List Str := ["_law_probe_rows", "_law_tables", "_law_rows", "_law_table_here", "_law_words", "_law_probe_here", "_law_row", "_law_spot", "_law_one"]
theorem sc__law_text : FnScope n__law_text ["_law_probe_rows", "_law_tables"] (defScope s__law_text) := ⟨rfl, rfl, rfl, by decide +kernel, rfl, by decide +kernel, by decide +kernel⟩
abbrev s__law_right : Stmt := topS 42
abbrev n__law_right : List Str := ["_law_pot_here", "_law_turn", "_law_many", "_law_spots", "_law_probe_rows", "_law_tables", "_law_kept", "_law_text_here"]
theorem sc__law_right : FnScope n__law_right ["_law_pot_here"] (defScope s__law_right) := ⟨rfl, rfl, rfl, by decide +kernel, rfl, by decide +kernel, by decide +kernel⟩
abbrev s_law : Stmt := topS 43
abbrev n_law : List Str := ["_law_script", "_law_k"]
theorem sc_law : FnScope n_law ["_law_script"] (defScope s_law) := ⟨rfl, rfl, rfl, by decide +kernel, rfl, by decide +kernel, by decide +kernel⟩
structure Defs (K : Frag) (mg : Str → Option Value) (base : Heap) (T : List (Addr × Str)) : Prop where
  d_is_integer_within : ∃ f fd, Fun K "is_integer_within" "is_integer_within" s_is_integer_within f fd ∧ Binds K fd ["value", "low", "high"] [] ∧ mg "is_integer_within" = some (.ref f)
  d_are_integers_within : ∃ f fd, Fun K "are_integers_within" "are_integers_within" s_are_integers_within f fd ∧ Binds K fd ["value", "low", "high"] [] ∧ mg "are_integers_within" = some (.ref f)
  d_is_probe_order : ∃ f fd, Fun K "is_probe_order" "is_probe_order" s_is_probe_order f fd ∧ Binds K fd ["count", "value"] [] ∧ mg "is_probe_order" = some (.ref f)
  d_are_probes : ∃ f fd, Fun K "are_probes" "are_probes" s_are_probes f fd ∧ Binds K fd ["value"] [] ∧ mg "are_probes" = some (.ref f)
  d_is_rule : ∃ f fd, Fun K "is_rule" "is_rule" s_is_rule f fd ∧ Binds K fd ["value"] [] ∧ mg "is_rule" = some (.ref f)
  d_is_sized : ∃ f fd, Fun K "is_sized" "is_sized" s_is_sized f fd ∧ Binds K fd ["value"] [] ∧ mg "is_sized" = some (.ref f)
  d_is_table : ∃ f fd, Fun K "is_table" "is_table" s_is_table f fd ∧ Binds K fd ["keys", "value"] [] ∧ mg "is_table" = some (.ref f)
  d_is_ascending : ∃ f fd, Fun K "is_ascending" "is_ascending" s_is_ascending f fd ∧ Binds K fd ["keys", "value"] [] ∧ mg "is_ascending" = some (.ref f)
  d_is_decided : ∃ f fd, Fun K "is_decided" "is_decided" s_is_decided f fd ∧ Binds K fd ["table", "a", "b"] [] ∧ mg "is_decided" = some (.ref f)
  d_show_setting : ∃ f fd, Fun K "show_setting" "show_setting" s_show_setting f fd ∧ Binds K fd ["probes", "rule"] [] ∧ mg "show_setting" = some (.ref f)
  d_show_keys : ∃ f fd, Fun K "show_keys" "show_keys" s_show_keys f fd ∧ Binds K fd ["keys", "between"] [] ∧ mg "show_keys" = some (.ref f)
  d_read_setting : ∃ f fd, Fun K "read_setting" "read_setting" s_read_setting f fd ∧ Binds K fd ["source"] [] ∧ mg "read_setting" = some (.ref f)
  d_require_string : ∃ f fd, Fun K "require_string" "require_string" s_require_string f fd ∧ Binds K fd ["source"] [] ∧ mg "require_string" = some (.ref f)
  d_sizes_in : ∃ f fd, Fun K "sizes_in" "sizes_in" s_sizes_in f fd ∧ Binds K fd ["line"] [] ∧ mg "sizes_in" = some (.ref f)
  d_number_of : ∃ f fd, Fun K "number_of" "number_of" s_number_of f fd ∧ Binds K fd ["word", "low", "high"] [] ∧ mg "number_of" = some (.ref f)
  d_probe_order_at : ∃ f fd, Fun K "probe_order_at" "probe_order_at" s_probe_order_at f fd ∧ Binds K fd ["lines", "at", "slots"] [] ∧ mg "probe_order_at" = some (.ref f)
  d_table_at : ∃ f fd, Fun K "table_at" "table_at" s_table_at f fd ∧ Binds K fd ["lines", "at", "keys"] [] ∧ mg "table_at" = some (.ref f)
  d_words_behind : ∃ f fd, Fun K "words_behind" "words_behind" s_words_behind f fd ∧ Binds K fd ["lines", "at", "first"] [] ∧ mg "words_behind" = some (.ref f)
  d_beaten_in : ∃ f fd, Fun K "beaten_in" "beaten_in" s_beaten_in f fd ∧ Binds K fd ["word", "keys"] [] ∧ mg "beaten_in" = some (.ref f)
  d__law_pot : ∃ f fd, Fun K "_law_pot" "_law_pot" s__law_pot f fd ∧ Binds K fd ["_law_script", "_law_k"] [] ∧ mg "_law_pot" = some (.ref f)
  d__law_take : ∃ f fd, Fun K "_law_take" "_law_take" s__law_take f fd ∧ Binds K fd ["_law_pot_here", "_law_size"] [] ∧ mg "_law_take" = some (.ref f)
  d__law_pick : ∃ f fd, Fun K "_law_pick" "_law_pick" s__law_pick f fd ∧ Binds K fd ["_law_pot_here", "_law_some"] [] ∧ mg "_law_pick" = some (.ref f)
  d__law_mixed : ∃ f fd, Fun K "_law_mixed" "_law_mixed" s__law_mixed f fd ∧ Binds K fd ["_law_pot_here", "_law_some"] [] ∧ mg "_law_mixed" = some (.ref f)
  d__law_line : ∃ f fd, Fun K "_law_line" "_law_line" s__law_line f fd ∧ Binds K fd ["_law_size", "_law_begin"] [] ∧ mg "_law_line" = some (.ref f)
  d__law_probe : ∃ f fd, Fun K "_law_probe" "_law_probe" s__law_probe f fd ∧ Binds K fd ["_law_pot_here", "_law_size"] [] ∧ mg "_law_probe" = some (.ref f)
  d__law_ordered_table : ∃ f fd, Fun K "_law_ordered_table" "_law_ordered_table" s__law_ordered_table f fd ∧ Binds K fd ["_law_order"] [] ∧ mg "_law_ordered_table" = some (.ref f)
  d__law_any_table : ∃ f fd, Fun K "_law_any_table" "_law_any_table" s__law_any_table f fd ∧ Binds K fd ["_law_pot_here", "_law_size"] [] ∧ mg "_law_any_table" = some (.ref f)
  d__law_turned : ∃ f fd, Fun K "_law_turned" "_law_turned" s__law_turned f fd ∧ Binds K fd ["_law_pot_here", "_law_table_here"] [] ∧ mg "_law_turned" = some (.ref f)
  d__law_table : ∃ f fd, Fun K "_law_table" "_law_table" s__law_table f fd ∧ Binds K fd ["_law_pot_here", "_law_size"] [] ∧ mg "_law_table" = some (.ref f)
  d__law_setting : ∃ f fd, Fun K "_law_setting" "_law_setting" s__law_setting f fd ∧ Binds K fd ["_law_pot_here", "_law_many", "_law_spots", "_law_is_even"] [] ∧ mg "_law_setting" = some (.ref f)
  d__law_text : ∃ f fd, Fun K "_law_text" "_law_text" s__law_text f fd ∧ Binds K fd ["_law_probe_rows", "_law_tables"] [] ∧ mg "_law_text" = some (.ref f)
  d__law_right : ∃ f fd, Fun K "_law_right" "_law_right" s__law_right f fd ∧ Binds K fd ["_law_pot_here"] [] ∧ mg "_law_right" = some (.ref f)
  d_law : ∃ f fd, Fun K "law" "law" s_law f fd ∧ Binds K fd ["_law_script"] [] ∧ mg "law" = some (.ref f)
  c_MOST : ∃ u, mg "MOST" = some u ∧ RelV (.int (16)) u
  c_NOTHING : ∃ u, mg "NOTHING" = some u ∧ RelV (.str "-") u
  z_abs : mg "abs" = none
  z_all : mg "all" = none
  z_bool : mg "bool" = none
  z_enumerate : mg "enumerate" = none
  z_int : mg "int" = none
  z_isinstance : mg "isinstance" = none
  z_len : mg "len" = none
  z_list : mg "list" = none
  z_max : mg "max" = none
  z_min : mg "min" = none
  z_range : mg "range" = none
  z_repr : mg "repr" = none
  z_set : mg "set" = none
  z_sorted : mg "sorted" = none
  z_str : mg "str" = none
  z_tuple : mg "tuple" = none
  z_zip : mg "zip" = none
section
variable {P : Program} {w : World} {K : Frag} {mg : Str → Option Value} {base : Heap} {T : List (Addr × Str)}
def Cal (P : Program) (w : World) (K : Frag) (mg : Str → Option Value) (base : Heap) (T : List (Addr × Str)) (x : Str) (st : Stmt) (k : Nat) (ps : List Str) (g : DRs) : Prop := ∃ f fd, Fun K x x st f fd ∧ Binds K fd ps [] ∧ mg x = some (.ref f) ∧ FnD P w K mg base T k f fd ps g
theorem ok_is_integer_within (D : Defs K mg base T) {g_ : DRs} (ar : ∀ ds st Q, g_ ds st Q → ds.length = 3) (sem : ∀ ds st Q, g_ ds st Q → F_is_integer_within { nx := fun _ st' => Rt st Q .non st', rt := Rt st Q } (startD 3 ds) st) : Cal P w K mg base T "is_integer_within" s_is_integer_within 1 ["value", "low", "high"] g_ := by
  obtain ⟨f, fd, F, b, m⟩ := D.d_is_integer_within
  exact ⟨f, fd, F, b, m, fnD_mk (k := 0) F sc_is_integer_within ar (fun cdv A outer s H E gd hr => (ds_one (ds_ret (de_and (de_isi (u := "int") (by decide +kernel) (by rfl) D.z_isinstance (by rfl) D.z_int (by decide +kernel) (de_var (pv 0))) (de_and (de_not (de_isi (u := "bool") (by decide +kernel) (by rfl) D.z_isinstance (by rfl) D.z_bool (by decide +kernel) (de_var (pv 0)))) (de_one (de_chain op_le op_le (opD_I0 fun _ _ _ _ => .bl _) (opD_I0 fun _ _ _ _ => .bl _) (de_var (pv 1)) (de_var (pv 0)) (de_var (pv 2))))))))) sem⟩
theorem ok_are_integers_within (D : Defs K mg base T) {g_is_integer_within : DRs} (C_is_integer_within : Cal P w K mg base T "is_integer_within" s_is_integer_within 1 ["value", "low", "high"] g_is_integer_within) {g_ : DRs} (ar : ∀ ds st Q, g_ ds st Q → ds.length = 3) (sem : ∀ ds st Q, g_ ds st Q → F_are_integers_within g_is_integer_within { nx := fun _ st' => Rt st Q .non st', rt := Rt st Q } (startD 4 ds) st) : Cal P w K mg base T "are_integers_within" s_are_integers_within 2 ["value", "low", "high"] g_ := by
  obtain ⟨f, fd, F, b, m⟩ := D.d_are_integers_within
  obtain ⟨f_is_integer_within, fd_is_integer_within, F_is_integer_within_, b_is_integer_within, g_is_integer_within_at, G_is_integer_within⟩ := C_is_integer_within
  exact ⟨f, fd, F, b, m, fnD_mk (k := 1) F sc_are_integers_within ar (fun cdv A outer s H E gd hr => (ds_one (ds_ret (de_and (de_isi (u := "tuple") (by decide +kernel) (by rfl) D.z_isinstance (by rfl) D.z_tuple (by decide +kernel) (de_var (pv 0))) (de_one (de_callB (cr_all rfl) (callD_all _) (by rfl) D.z_all (by decide +kernel) (da_cons (de_lcG (own := [("item", 3)]) finT_ok rfl sc_are_integers_within.nd (di_seq (de_var (pv 0))) (blkOk_by (own := [("item", 3)]) (N := n_are_integers_within) (sc := defScope s_are_integers_within) (by decide +kernel)) (fun _ _ _ _ _ => (dg_name (i := 3) sc_are_integers_within.nd rfl (.inl rfl) (by decide))) (fun _ _ _ _ _ => dts_nil) (fun _ _ _ _ _ => (de_call G_is_integer_within gd (hr.mono (by omega)) (by rfl) g_is_integer_within_at F_is_integer_within_.kp b_is_integer_within (da_cons (de_var (pv 3)) (da_cons (de_var (pv 1)) (da_cons (de_var (pv 2)) da_nil)))))) da_nil))))))) sem⟩
theorem ok_is_probe_order (D : Defs K mg base T) {g_is_integer_within : DRs} (C_is_integer_within : Cal P w K mg base T "is_integer_within" s_is_integer_within 1 ["value", "low", "high"] g_is_integer_within) {g_ : DRs} (ar : ∀ ds st Q, g_ ds st Q → ds.length = 2) (sem : ∀ ds st Q, g_ ds st Q → F_is_probe_order g_is_integer_within { nx := fun _ st' => Rt st Q .non st', rt := Rt st Q } (startD 3 ds) st) : Cal P w K mg base T "is_probe_order" s_is_probe_order 2 ["count", "value"] g_ := by
  obtain ⟨f, fd, F, b, m⟩ := D.d_is_probe_order
  obtain ⟨f_is_integer_within, fd_is_integer_within, F_is_integer_within_, b_is_integer_within, g_is_integer_within_at, G_is_integer_within⟩ := C_is_integer_within
  exact ⟨f, fd, F, b, m, fnD_mk (k := 1) F sc_is_probe_order ar (fun cdv A outer s H E gd hr => (ds_cons (ds_if (PW.pt (dw_or (dt_not (dt_val (de_isi (u := "tuple") (by decide +kernel) (by rfl) D.z_isinstance (by rfl) D.z_tuple (by decide +kernel) (de_var (pv 1))))) (dw_or1 (dt_cmpR (op_ne2 hr.units) opD_ne (de_callB call_len_seq callD_len (by rfl) D.z_len PySem.boot_len (da_cons (de_var (pv 1)) da_nil)) (de_var (pv 0)) (nomark _))))) (ds_one (ds_ret (de_bl))) ds_nil) (ds_one (ds_ret (de_and (de_callB (cr_all rfl) (callD_all _) (by rfl) D.z_all (by decide +kernel) (da_cons (de_lcG (own := [("slot", 2)]) finT_ok rfl sc_is_probe_order.nd (di_seq (de_var (pv 1))) (blkOk_by (own := [("slot", 2)]) (N := n_is_probe_order) (sc := defScope s_is_probe_order) (by decide +kernel)) (fun _ _ _ _ _ => (dg_name (i := 2) sc_is_probe_order.nd rfl (.inl rfl) (by decide))) (fun _ _ _ _ _ => dts_nil) (fun _ _ _ _ _ => (de_call G_is_integer_within gd (hr.mono (by omega)) (by rfl) g_is_integer_within_at F_is_integer_within_.kp b_is_integer_within (da_cons (de_var (pv 2)) (da_cons (de_int) (da_cons (de_sub (de_var (pv 0)) (de_int)) da_nil)))))) da_nil)) (de_one (de_cmp (op_eq2 hr.units) opD_eq (de_lenSet (by rfl) D.z_len (by rfl) D.z_set (de_var (pv 1))) (de_var (pv 0)) (nomark _)))))))) sem⟩
theorem ok_are_probes (D : Defs K mg base T) {g_is_probe_order : DRs} (C_is_probe_order : Cal P w K mg base T "is_probe_order" s_is_probe_order 2 ["count", "value"] g_is_probe_order) {g_is_sized : DRs} (C_is_sized : Cal P w K mg base T "is_sized" s_is_sized 1 ["value"] g_is_sized) {g_ : DRs} (ar : ∀ ds st Q, g_ ds st Q → ds.length = 1) (sem : ∀ ds st Q, g_ ds st Q → F_are_probes g_is_probe_order g_is_sized { nx := fun _ st' => Rt st Q .non st', rt := Rt st Q } (startD 3 ds) st) : Cal P w K mg base T "are_probes" s_are_probes 3 ["value"] g_ := by
  obtain ⟨f, fd, F, b, m⟩ := D.d_are_probes
  obtain ⟨f_is_probe_order, fd_is_probe_order, F_is_probe_order_, b_is_probe_order, g_is_probe_order_at, G_is_probe_order⟩ := C_is_probe_order
  obtain ⟨f_is_sized, fd_is_sized, F_is_sized_, b_is_sized, g_is_sized_at, G_is_sized⟩ := C_is_sized
  exact ⟨f, fd, F, b, m, fnD_mk (k := 2) F sc_are_probes ar (fun cdv A outer s H E gd hr => (ds_cons (ds_if (PW.pt (dw_or (dt_not (dt_val (de_call G_is_sized gd (hr.mono (by omega)) (by rfl) g_is_sized_at F_is_sized_.kp b_is_sized (da_cons (de_var (pv 0)) da_nil)))) (dw_or1 (dt_not (dt_val (de_call G_is_sized gd (hr.mono (by omega)) (by rfl) g_is_sized_at F_is_sized_.kp b_is_sized (da_cons (de_ix (de_var (pv 0)) (de_int) (fun _ _ => rfl)) da_nil))))))) (ds_one (ds_ret (de_bl))) ds_nil) (ds_cons (ds_set (i := 1) sc_are_probes.nd rfl (.inr rfl) (de_callB call_len_seq callD_len (by rfl) D.z_len PySem.boot_len (da_cons (de_ix (de_var (pv 0)) (de_int) (fun _ _ => rfl)) da_nil))) (ds_one (ds_ret (de_callB (cr_all rfl) (callD_all _) (by rfl) D.z_all (by decide +kernel) (da_cons (de_lcG (own := [("order", 2)]) finT_ok rfl sc_are_probes.nd (di_seq (de_var (pv 0))) (blkOk_by (own := [("order", 2)]) (N := n_are_probes) (sc := defScope s_are_probes) (by decide +kernel)) (fun _ _ _ _ _ => (dg_name (i := 2) sc_are_probes.nd rfl (.inl rfl) (by decide))) (fun _ _ _ _ _ => dts_nil) (fun _ _ _ _ _ => (de_call G_is_probe_order gd (hr.mono (by omega)) (by rfl) g_is_probe_order_at F_is_probe_order_.kp b_is_probe_order (da_cons (de_var (pv 1)) (da_cons (de_var (pv 2)) da_nil))))) da_nil))))))) sem⟩
theorem ok_is_rule (D : Defs K mg base T) {g_is_sized : DRs} (C_is_sized : Cal P w K mg base T "is_sized" s_is_sized 1 ["value"] g_is_sized) {g_is_table : DRs} (C_is_table : Cal P w K mg base T "is_table" s_is_table 4 ["keys", "value"] g_is_table) {g_ : DRs} (ar : ∀ ds st Q, g_ ds st Q → ds.length = 1) (sem : ∀ ds st Q, g_ ds st Q → F_is_rule g_is_sized g_is_table { nx := fun _ st' => Rt st Q .non st', rt := Rt st Q } (startD 3 ds) st) : Cal P w K mg base T "is_rule" s_is_rule 5 ["value"] g_ := by
  obtain ⟨f, fd, F, b, m⟩ := D.d_is_rule
  obtain ⟨f_is_sized, fd_is_sized, F_is_sized_, b_is_sized, g_is_sized_at, G_is_sized⟩ := C_is_sized
  obtain ⟨f_is_table, fd_is_table, F_is_table_, b_is_table, g_is_table_at, G_is_table⟩ := C_is_table
  exact ⟨f, fd, F, b, m, fnD_mk (k := 4) F sc_is_rule ar (fun cdv A outer s H E gd hr => (ds_cons (ds_if (PW.pt (dw_or (dt_not (dt_val (de_call G_is_sized gd (hr.mono (by omega)) (by rfl) g_is_sized_at F_is_sized_.kp b_is_sized (da_cons (de_var (pv 0)) da_nil)))) (dw_or1 (dt_not (dt_val (de_call G_is_sized gd (hr.mono (by omega)) (by rfl) g_is_sized_at F_is_sized_.kp b_is_sized (da_cons (de_ix (de_var (pv 0)) (de_int) (fun _ _ => rfl)) da_nil))))))) (ds_one (ds_ret (de_bl))) ds_nil) (ds_cons (ds_set (i := 1) sc_is_rule.nd rfl (.inr rfl) (de_callB call_len_seq callD_len (by rfl) D.z_len PySem.boot_len (da_cons (de_ix (de_var (pv 0)) (de_int) (fun _ _ => rfl)) da_nil))) (ds_one (ds_ret (de_callB (cr_all rfl) (callD_all _) (by rfl) D.z_all (by decide +kernel) (da_cons (de_lcG (own := [("table", 2)]) finT_ok rfl sc_is_rule.nd (di_seq (de_var (pv 0))) (blkOk_by (own := [("table", 2)]) (N := n_is_rule) (sc := defScope s_is_rule) (by decide +kernel)) (fun _ _ _ _ _ => (dg_name (i := 2) sc_is_rule.nd rfl (.inl rfl) (by decide))) (fun _ _ _ _ _ => dts_nil) (fun _ _ _ _ _ => (de_call G_is_table gd (hr.mono (by omega)) (by rfl) g_is_table_at F_is_table_.kp b_is_table (da_cons (de_var (pv 1)) (da_cons (de_var (pv 2)) da_nil))))) da_nil))))))) sem⟩
theorem ok_is_sized (D : Defs K mg base T) {g_ : DRs} (ar : ∀ ds st Q, g_ ds st Q → ds.length = 1) (sem : ∀ ds st Q, g_ ds st Q → F_is_sized { nx := fun _ st' => Rt st Q .non st', rt := Rt st Q } (startD 1 ds) st) : Cal P w K mg base T "is_sized" s_is_sized 1 ["value"] g_ := by
  obtain ⟨f, fd, F, b, m⟩ := D.d_is_sized
  obtain ⟨u_MOST, h_c_MOST, r_MOST⟩ := D.c_MOST
  exact ⟨f, fd, F, b, m, fnD_mk (k := 0) F sc_is_sized ar (fun cdv A outer s H E gd hr => (ds_one (ds_ret (de_and (de_isi (u := "tuple") (by decide +kernel) (by rfl) D.z_isinstance (by rfl) D.z_tuple (by decide +kernel) (de_var (pv 0))) (de_one (de_chain op_le op_le (opD_I0 fun _ _ _ _ => .bl _) (opD_I0 fun _ _ _ _ => .bl _) (de_int) (de_callB call_len_seq callD_len (by rfl) D.z_len PySem.boot_len (da_cons (de_var (pv 0)) da_nil)) (de_globI (by rfl) h_c_MOST r_MOST))))))) sem⟩
theorem ok_is_table (D : Defs K mg base T) {g_is_ascending : DRs} (C_is_ascending : Cal P w K mg base T "is_ascending" s_is_ascending 3 ["keys", "value"] g_is_ascending) {g_is_decided : DRs} (C_is_decided : Cal P w K mg base T "is_decided" s_is_decided 1 ["table", "a", "b"] g_is_decided) {g_ : DRs} (ar : ∀ ds st Q, g_ ds st Q → ds.length = 2) (sem : ∀ ds st Q, g_ ds st Q → F_is_table g_is_ascending g_is_decided { nx := fun _ st' => Rt st Q .non st', rt := Rt st Q } (startD 5 ds) st) : Cal P w K mg base T "is_table" s_is_table 4 ["keys", "value"] g_ := by
  obtain ⟨f, fd, F, b, m⟩ := D.d_is_table
  obtain ⟨f_is_ascending, fd_is_ascending, F_is_ascending_, b_is_ascending, g_is_ascending_at, G_is_ascending⟩ := C_is_ascending
  obtain ⟨f_is_decided, fd_is_decided, F_is_decided_, b_is_decided, g_is_decided_at, G_is_decided⟩ := C_is_decided
  exact ⟨f, fd, F, b, m, fnD_mk (k := 3) F sc_is_table ar (fun cdv A outer s H E gd hr => (ds_cons (ds_if (PW.pt (dw_or (dt_not (dt_val (de_isi (u := "tuple") (by decide +kernel) (by rfl) D.z_isinstance (by rfl) D.z_tuple (by decide +kernel) (de_var (pv 1))))) (dw_or1 (dt_cmpR (op_ne2 hr.units) opD_ne (de_callB call_len_seq callD_len (by rfl) D.z_len PySem.boot_len (da_cons (de_var (pv 1)) da_nil)) (de_var (pv 0)) (nomark _))))) (ds_one (ds_ret (de_bl))) ds_nil) (ds_cons (ds_if (dt_not (dt_val (de_callB (cr_all rfl) (callD_all _) (by rfl) D.z_all (by decide +kernel) (da_cons (de_lcG (own := [("beaten", 4)]) finT_ok rfl sc_is_table.nd (di_seq (de_var (pv 1))) (blkOk_by (own := [("beaten", 4)]) (N := n_is_table) (sc := defScope s_is_table) (by decide +kernel)) (fun _ _ _ _ _ => (dg_name (i := 4) sc_is_table.nd rfl (.inl rfl) (by decide))) (fun _ _ _ _ _ => dts_nil) (fun _ _ _ _ _ => (de_call G_is_ascending gd (hr.mono (by omega)) (by rfl) g_is_ascending_at F_is_ascending_.kp b_is_ascending (da_cons (de_var (pv 0)) (da_cons (de_var (pv 4)) da_nil))))) da_nil)))) (ds_one (ds_ret (de_bl))) ds_nil) (ds_one (ds_ret (de_callB (cr_all rfl) (callD_all _) (by rfl) D.z_all (by decide +kernel) (da_cons (de_lc2G (vs1 := [3]) finT_ok rfl sc_is_table.nd (di_range1 (by rfl) D.z_range (da_cons (de_var (pv 0)) da_nil)) (blkOk_by (own := [("a", 2), ("b", 3)]) (N := n_is_table) (sc := defScope s_is_table) (by decide +kernel)) (by decide) (fun _ _ _ _ _ => (dg_name (i := 2) sc_is_table.nd rfl (.inl rfl) (by decide))) (fun _ _ _ _ _ => dts_nil) (fun _ _ _ _ _ => (di_range1 (by rfl) D.z_range (da_cons (de_add (de_var (pv 2)) (de_int)) da_nil))) (fun _ _ _ _ _ => (dg_name (i := 3) sc_is_table.nd rfl (.inl rfl) (by decide))) (fun _ _ _ _ _ => dts_nil) (fun _ _ _ _ _ => (de_call G_is_decided gd (hr.mono (by omega)) (by rfl) g_is_decided_at F_is_decided_.kp b_is_decided (da_cons (de_var (pv 1)) (da_cons (de_var (pv 2)) (da_cons (de_var (pv 3)) da_nil)))))) da_nil))))))) sem⟩
theorem ok_is_ascending (D : Defs K mg base T) {g_are_integers_within : DRs} (C_are_integers_within : Cal P w K mg base T "are_integers_within" s_are_integers_within 2 ["value", "low", "high"] g_are_integers_within) {g_ : DRs} (ar : ∀ ds st Q, g_ ds st Q → ds.length = 2) (sem : ∀ ds st Q, g_ ds st Q → F_is_ascending g_are_integers_within { nx := fun _ st' => Rt st Q .non st', rt := Rt st Q } (startD 4 ds) st) : Cal P w K mg base T "is_ascending" s_is_ascending 3 ["keys", "value"] g_ := by
  obtain ⟨f, fd, F, b, m⟩ := D.d_is_ascending
  obtain ⟨f_are_integers_within, fd_are_integers_within, F_are_integers_within_, b_are_integers_within, g_are_integers_within_at, G_are_integers_within⟩ := C_are_integers_within
  exact ⟨f, fd, F, b, m, fnD_mk (k := 2) F sc_is_ascending ar (fun cdv A outer s H E gd hr => (ds_cons (ds_if (dt_not (dt_val (de_call G_are_integers_within gd (hr.mono (by omega)) (by rfl) g_are_integers_within_at F_are_integers_within_.kp b_are_integers_within (da_cons (de_var (pv 1)) (da_cons (de_int) (da_cons (de_sub (de_var (pv 0)) (de_int)) da_nil)))))) (ds_one (ds_ret (de_bl))) ds_nil) (ds_one (ds_ret (de_callB (cr_all rfl) (callD_all _) (by rfl) D.z_all (by decide +kernel) (da_cons (de_lcG (own := [("key", 2), ("after", 3)]) finT_ok rfl sc_is_ascending.nd (di_zip (by rfl) D.z_zip (da_cons (de_var (pv 1)) (da_cons (de_slice (.inl rfl) (de_var (pv 1)) (do_some (de_int)) do_none) da_nil))) (blkOk_by (own := [("key", 2), ("after", 3)]) (N := n_is_ascending) (sc := defScope s_is_ascending) (by decide +kernel)) (fun _ _ _ _ _ => (dg_tup rfl (dgs_cons (dg_name (i := 2) sc_is_ascending.nd rfl (.inl rfl) (by decide)) (dgs_cons (dg_name (i := 3) sc_is_ascending.nd rfl (.inl rfl) (by decide)) dgs_nil)))) (fun _ _ _ _ _ => dts_nil) (fun _ _ _ _ _ => (de_cmp (op_ltG (Nat.lt_of_le_of_lt (Nat.le_add_right _ _) hr.units)) opD_ltG (de_var (pv 2)) (de_var (pv 3)) (nomark _)))) da_nil)))))) sem⟩
theorem ok_is_decided (D : Defs K mg base T) {g_ : DRs} (ar : ∀ ds st Q, g_ ds st Q → ds.length = 3) (sem : ∀ ds st Q, g_ ds st Q → F_is_decided { nx := fun _ st' => Rt st Q .non st', rt := Rt st Q } (startD 3 ds) st) : Cal P w K mg base T "is_decided" s_is_decided 1 ["table", "a", "b"] g_ := by
  obtain ⟨f, fd, F, b, m⟩ := D.d_is_decided
  exact ⟨f, fd, F, b, m, fnD_mk (k := 0) F sc_is_decided ar (fun cdv A outer s H E gd hr => (ds_cons (ds_if (dt_cmpR (op_eq2 hr.units) opD_eq (de_var (pv 1)) (de_var (pv 2)) (nomark _)) (ds_one (ds_ret (de_cmp op_notIn_seq (opD_in true) (de_var (pv 1)) (de_ix (de_var (pv 0)) (de_var (pv 1)) (fun _ _ => rfl)) (by rfl)))) ds_nil) (ds_one (ds_ret (de_cmp (op_ne2 hr.units) opD_ne (de_cmp op_in_seq (opD_in false) (de_var (pv 2)) (de_ix (de_var (pv 0)) (de_var (pv 1)) (fun _ _ => rfl)) (by rfl)) (de_cmp op_in_seq (opD_in false) (de_var (pv 1)) (de_ix (de_var (pv 0)) (de_var (pv 2)) (fun _ _ => rfl)) (by rfl)) (nomark _)))))) sem⟩
theorem ok_show_setting (D : Defs K mg base T) {g_show_keys : DRs} (C_show_keys : Cal P w K mg base T "show_keys" s_show_keys 1 ["keys", "between"] g_show_keys) {g_ : DRs} (ar : ∀ ds st Q, g_ ds st Q → ds.length = 2) (sem : ∀ ds st Q, g_ ds st Q → F_show_setting g_show_keys { nx := fun _ st' => Rt st Q .non st', rt := Rt st Q } (startD 7 ds) st) : Cal P w K mg base T "show_setting" s_show_setting 2 ["probes", "rule"] g_ := by
  obtain ⟨f, fd, F, b, m⟩ := D.d_show_setting
  obtain ⟨f_show_keys, fd_show_keys, F_show_keys_, b_show_keys, g_show_keys_at, G_show_keys⟩ := C_show_keys
  exact ⟨f, fd, F, b, m, fnD_mk (k := 1) F sc_show_setting ar (fun cdv A outer s H E gd hr => (ds_cons (ds_set (i := 2) sc_show_setting.nd rfl (.inl rfl) (de_lstN (da_cons (de_fstr (.cons (de_str) (.cons (de_fmt (de_callB call_len_seq callD_len (by rfl) D.z_len PySem.boot_len (da_cons (de_var (pv 0)) da_nil))) (.cons (de_str) (.cons (de_fmt (de_callB call_len_seq callD_len (by rfl) D.z_len PySem.boot_len (da_cons (de_var (pv 1)) da_nil))) .nil))))) da_nil))) (ds_cons (ds_augL (i := 2) sc_show_setting.nd rfl (.inl rfl) (de_lcG (own := [("order", 3)]) finN_ok rfl sc_show_setting.nd (di_seq (de_var (pv 0))) (blkOk_by (own := [("order", 3)]) (N := n_show_setting) (sc := defScope s_show_setting) (by decide +kernel)) (fun _ _ _ _ _ => (dg_name (i := 3) sc_show_setting.nd rfl (.inl rfl) (by decide))) (fun _ _ _ _ _ => dts_nil) (fun _ _ _ _ _ => (de_join (de_str) (de_add (de_lst (da_cons (de_str) da_nil)) (de_lcG (own := [("slot", 5)]) finT_ok rfl sc_show_setting.nd (di_seq (de_var (pv 3))) (blkOk_by (own := [("slot", 5)]) (by rfl)) (fun _ _ _ _ _ => (dg_name (i := 5) sc_show_setting.nd rfl (.inl rfl) (by decide))) (fun _ _ _ _ _ => dts_nil) (fun _ _ _ _ _ => (de_callTy call_str_int callD_strI (by rfl) D.z_str (by decide +kernel) (da_cons (de_var (pv 5)) da_nil))))))))) (ds_cons (ds_augL (i := 2) sc_show_setting.nd rfl (.inl rfl) (de_lcG (own := [("table", 4)]) finN_ok rfl sc_show_setting.nd (di_seq (de_var (pv 1))) (blkOk_by (own := [("table", 4)]) (N := n_show_setting) (sc := defScope s_show_setting) (by decide +kernel)) (fun _ _ _ _ _ => (dg_name (i := 4) sc_show_setting.nd rfl (.inl rfl) (by decide))) (fun _ _ _ _ _ => dts_nil) (fun _ _ _ _ _ => (de_join (de_str) (de_add (de_lst (da_cons (de_str) da_nil)) (de_lcG (own := [("beaten", 6)]) finT_ok rfl sc_show_setting.nd (di_seq (de_var (pv 4))) (blkOk_by (own := [("beaten", 6)]) (by rfl)) (fun _ _ _ _ _ => (dg_name (i := 6) sc_show_setting.nd rfl (.inl rfl) (by decide))) (fun _ _ _ _ _ => dts_nil) (fun _ _ _ _ _ => (de_call G_show_keys gd (hr.mono (by omega)) (by rfl) g_show_keys_at F_show_keys_.kp b_show_keys (da_cons (de_var (pv 6)) (da_cons (de_str) da_nil)))))))))) (ds_one (ds_ret (de_join (de_str) (de_var (pv 2))))))))) sem⟩
theorem ok_show_keys (D : Defs K mg base T) {g_ : DRs} (ar : ∀ ds st Q, g_ ds st Q → ds.length = 2) (sem : ∀ ds st Q, g_ ds st Q → F_show_keys { nx := fun _ st' => Rt st Q .non st', rt := Rt st Q } (startD 3 ds) st) : Cal P w K mg base T "show_keys" s_show_keys 1 ["keys", "between"] g_ := by
  obtain ⟨f, fd, F, b, m⟩ := D.d_show_keys
  obtain ⟨u_NOTHING, h_c_NOTHING, r_NOTHING⟩ := D.c_NOTHING
  exact ⟨f, fd, F, b, m, fnD_mk (k := 0) F sc_show_keys ar (fun cdv A outer s H E gd hr => (ds_cons (ds_if (dt_cmpR (op_eq2 hr.units) opD_eq (de_callB call_len_seq callD_len (by rfl) D.z_len PySem.boot_len (da_cons (de_var (pv 0)) da_nil)) (de_int) (nomark _)) (ds_one (ds_ret (de_globS (by rfl) h_c_NOTHING r_NOTHING))) ds_nil) (ds_one (ds_ret (de_join (de_var (pv 1)) (de_lcG (own := [("key", 2)]) finT_ok rfl sc_show_keys.nd (di_seq (de_var (pv 0))) (blkOk_by (own := [("key", 2)]) (N := n_show_keys) (sc := defScope s_show_keys) (by decide +kernel)) (fun _ _ _ _ _ => (dg_name (i := 2) sc_show_keys.nd rfl (.inl rfl) (by decide))) (fun _ _ _ _ _ => dts_nil) (fun _ _ _ _ _ => (de_callTy call_str_int callD_strI (by rfl) D.z_str (by decide +kernel) (da_cons (de_var (pv 2)) da_nil))))))))) sem⟩
theorem ok_read_setting (D : Defs K mg base T) {g_require_string : DRs} (C_require_string : Cal P w K mg base T "require_string" s_require_string 1 ["source"] g_require_string) {g_sizes_in : DRs} (C_sizes_in : Cal P w K mg base T "sizes_in" s_sizes_in 2 ["line"] g_sizes_in) {g_probe_order_at : DRs} (C_probe_order_at : Cal P w K mg base T "probe_order_at" s_probe_order_at 3 ["lines", "at", "slots"] g_probe_order_at) {g_table_at : DRs} (C_table_at : Cal P w K mg base T "table_at" s_table_at 5 ["lines", "at", "keys"] g_table_at) {g_ : DRs} (ar : ∀ ds st Q, g_ ds st Q → ds.length = 1) (sem : ∀ ds st Q, g_ ds st Q → F_read_setting g_require_string g_sizes_in g_probe_order_at g_table_at { nx := fun _ st' => Rt st Q .non st', rt := Rt st Q } (startD 7 ds) st) : Cal P w K mg base T "read_setting" s_read_setting 6 ["source"] g_ := by
  obtain ⟨f, fd, F, b, m⟩ := D.d_read_setting
  obtain ⟨f_require_string, fd_require_string, F_require_string_, b_require_string, g_require_string_at, G_require_string⟩ := C_require_string
  obtain ⟨f_sizes_in, fd_sizes_in, F_sizes_in_, b_sizes_in, g_sizes_in_at, G_sizes_in⟩ := C_sizes_in
  obtain ⟨f_probe_order_at, fd_probe_order_at, F_probe_order_at_, b_probe_order_at, g_probe_order_at_at, G_probe_order_at⟩ := C_probe_order_at
  obtain ⟨f_table_at, fd_table_at, F_table_at_, b_table_at, g_table_at_at, G_table_at⟩ := C_table_at
  exact ⟨f, fd, F, b, m, fnD_mk (k := 5) F sc_read_setting ar (fun cdv A outer s H E gd hr => (ds_cons (ds_expr (de_call G_require_string gd (hr.mono (by omega)) (by rfl) g_require_string_at F_require_string_.kp b_require_string (da_cons (de_var (pv 0)) da_nil))) (ds_cons (ds_set (i := 1) sc_read_setting.nd rfl (.inr rfl) (de_split (.inl rfl) (de_var (pv 0)) (de_str))) (ds_cons (ds_asg (vs := [2, 3]) (de_call G_sizes_in gd (hr.mono (by omega)) (by rfl) g_sizes_in_at F_sizes_in_.kp b_sizes_in (da_cons (de_ix (de_var (pv 1)) (de_int) (fun _ _ => rfl)) da_nil)) (dg_tup rfl (dgs_cons (dg_name (i := 2) sc_read_setting.nd rfl (.inr rfl) (by decide)) (dgs_cons (dg_name (i := 3) sc_read_setting.nd rfl (.inr rfl) (by decide)) dgs_nil)))) (ds_cons (ds_set (i := 4) sc_read_setting.nd rfl (.inl rfl) (de_callTy call_tup2 callD_tup (by rfl) D.z_tuple (by decide +kernel) (da_cons (de_lcG (own := [("at", 6)]) finT_ok rfl sc_read_setting.nd (di_range2 (by rfl) D.z_range (da_cons (de_int) (da_cons (de_add (de_int) (de_var (pv 2))) da_nil))) (blkOk_by (own := [("at", 6)]) (N := n_read_setting) (sc := defScope s_read_setting) (by decide +kernel)) (fun _ _ _ _ _ => (dg_name (i := 6) sc_read_setting.nd rfl (.inl rfl) (by decide))) (fun _ _ _ _ _ => dts_nil) (fun _ _ _ _ _ => (de_call G_probe_order_at gd (hr.mono (by omega)) (by rfl) g_probe_order_at_at F_probe_order_at_.kp b_probe_order_at (da_cons (de_var (pv 1)) (da_cons (de_var (pv 6)) (da_cons (de_var (pv 3)) da_nil)))))) da_nil))) (ds_cons (ds_set (i := 5) sc_read_setting.nd rfl (.inl rfl) (de_callTy call_tup2 callD_tup (by rfl) D.z_tuple (by decide +kernel) (da_cons (de_lcG (own := [("at", 6)]) finT_ok rfl sc_read_setting.nd (di_range2 (by rfl) D.z_range (da_cons (de_add (de_int) (de_var (pv 2))) (da_cons (de_add (de_add (de_int) (de_var (pv 2))) (de_var (pv 3))) da_nil))) (blkOk_by (own := [("at", 6)]) (N := n_read_setting) (sc := defScope s_read_setting) (by decide +kernel)) (fun _ _ _ _ _ => (dg_name (i := 6) sc_read_setting.nd rfl (.inl rfl) (by decide))) (fun _ _ _ _ _ => dts_nil) (fun _ _ _ _ _ => (de_call G_table_at gd (hr.mono (by omega)) (by rfl) g_table_at_at F_table_at_.kp b_table_at (da_cons (de_var (pv 1)) (da_cons (de_var (pv 6)) (da_cons (de_var (pv 2)) da_nil)))))) da_nil))) (ds_cons (ds_if (dt_cmpR op_gt (opD_I0 fun _ _ _ _ => .bl _) (de_callB call_len_seq callD_len (by rfl) D.z_len PySem.boot_len (da_cons (de_var (pv 1)) da_nil)) (de_add (de_add (de_int) (de_var (pv 2))) (de_var (pv 3))) (nomark _)) (ds_one ds_never) ds_nil) (ds_one (ds_ret (de_tup (da_cons (de_var (pv 4)) (da_cons (de_var (pv 5)) da_nil)))))))))))) sem⟩
theorem ok_require_string (D : Defs K mg base T) {g_ : DRs} (ar : ∀ ds st Q, g_ ds st Q → ds.length = 1) (sem : ∀ ds st Q, g_ ds st Q → F_require_string { nx := fun _ st' => Rt st Q .non st', rt := Rt st Q } (startD 1 ds) st) : Cal P w K mg base T "require_string" s_require_string 1 ["source"] g_ := by
  obtain ⟨f, fd, F, b, m⟩ := D.d_require_string
  exact ⟨f, fd, F, b, m, fnD_mk (k := 0) F sc_require_string ar (fun cdv A outer s H E gd hr => (ds_one (ds_if (dt_not (dt_val (de_isi (u := "str") (by decide +kernel) (by rfl) D.z_isinstance (by rfl) D.z_str (by decide +kernel) (de_var (pv 0))))) (ds_one ds_never) ds_nil))) sem⟩
theorem ok_sizes_in (D : Defs K mg base T) {g_number_of : DRs} (C_number_of : Cal P w K mg base T "number_of" s_number_of 1 ["word", "low", "high"] g_number_of) {g_ : DRs} (ar : ∀ ds st Q, g_ ds st Q → ds.length = 1) (sem : ∀ ds st Q, g_ ds st Q → F_sizes_in g_number_of { nx := fun _ st' => Rt st Q .non st', rt := Rt st Q } (startD 4 ds) st) : Cal P w K mg base T "sizes_in" s_sizes_in 2 ["line"] g_ := by
  obtain ⟨f, fd, F, b, m⟩ := D.d_sizes_in
  obtain ⟨f_number_of, fd_number_of, F_number_of_, b_number_of, g_number_of_at, G_number_of⟩ := C_number_of
  obtain ⟨u_MOST, h_c_MOST, r_MOST⟩ := D.c_MOST
  exact ⟨f, fd, F, b, m, fnD_mk (k := 1) F sc_sizes_in ar (fun cdv A outer s H E gd hr => (ds_cons (ds_set (i := 1) sc_sizes_in.nd rfl (.inl rfl) (de_split (.inl rfl) (de_var (pv 0)) (de_str))) (ds_cons (ds_if (PW.pt (dw_or (dt_cmpR (op_ne2 hr.units) opD_ne (de_callB call_len_seq callD_len (by rfl) D.z_len PySem.boot_len (da_cons (de_var (pv 1)) da_nil)) (de_int) (nomark _)) (dw_or (dt_cmpR (op_ne2 hr.units) opD_ne (de_ix (de_var (pv 1)) (de_int) (fun _ _ => rfl)) (de_str) (nomark _)) (dw_or1 (dt_cmpR (op_ne2 hr.units) opD_ne (de_ix (de_var (pv 1)) (de_int) (fun _ _ => rfl)) (de_str) (nomark _)))))) (ds_one ds_never) ds_nil) (ds_cons (ds_set (i := 2) sc_sizes_in.nd rfl (.inl rfl) (de_call G_number_of gd (hr.mono (by omega)) (by rfl) g_number_of_at F_number_of_.kp b_number_of (da_cons (de_ix (de_var (pv 1)) (de_int) (fun _ _ => rfl)) (da_cons (de_int) (da_cons (de_globI (by rfl) h_c_MOST r_MOST) da_nil))))) (ds_cons (ds_set (i := 3) sc_sizes_in.nd rfl (.inl rfl) (de_call G_number_of gd (hr.mono (by omega)) (by rfl) g_number_of_at F_number_of_.kp b_number_of (da_cons (de_ix (de_var (pv 1)) (de_int) (fun _ _ => rfl)) (da_cons (de_int) (da_cons (de_globI (by rfl) h_c_MOST r_MOST) da_nil))))) (ds_cons (ds_if (PW.pt (dw_or (dt_isN (de_var (pv 2))) (dw_or1 (dt_isN (de_var (pv 3)))))) (ds_one ds_never) ds_nil) (ds_one (ds_ret (de_tup (da_cons (de_var (pv 2)) (da_cons (de_var (pv 3)) da_nil))))))))))) sem⟩
theorem ok_number_of (D : Defs K mg base T) {g_ : DRs} (ar : ∀ ds st Q, g_ ds st Q → ds.length = 3) (sem : ∀ ds st Q, g_ ds st Q → F_number_of { nx := fun _ st' => Rt st Q .non st', rt := Rt st Q } (startD 4 ds) st) : Cal P w K mg base T "number_of" s_number_of 1 ["word", "low", "high"] g_ := by
  obtain ⟨f, fd, F, b, m⟩ := D.d_number_of
  exact ⟨f, fd, F, b, m, fnD_mk (k := 0) F sc_number_of ar (fun cdv A outer s H E gd hr => (ds_cons (ds_for (vs := [3]) PassesOwn.never rfl (di_range2 (by rfl) D.z_range (da_cons (de_var (pv 1)) (da_cons (de_add (de_var (pv 2)) (de_int)) da_nil))) (dg_name (i := 3) sc_number_of.nd rfl (.inl rfl) (by decide)) (ds_one (ds_if (dt_cmpR (op_eq2 hr.units) opD_eq (de_var (pv 0)) (de_callTy call_str_int callD_strI (by rfl) D.z_str (by decide +kernel) (da_cons (de_var (pv 3)) da_nil)) (nomark _)) (ds_one (ds_ret (de_var (pv 3)))) ds_nil))) (ds_one (ds_ret (de_non))))) sem⟩
theorem ok_probe_order_at (D : Defs K mg base T) {g_is_probe_order : DRs} (C_is_probe_order : Cal P w K mg base T "is_probe_order" s_is_probe_order 2 ["count", "value"] g_is_probe_order) {g_number_of : DRs} (C_number_of : Cal P w K mg base T "number_of" s_number_of 1 ["word", "low", "high"] g_number_of) {g_words_behind : DRs} (C_words_behind : Cal P w K mg base T "words_behind" s_words_behind 1 ["lines", "at", "first"] g_words_behind) {g_ : DRs} (ar : ∀ ds st Q, g_ ds st Q → ds.length = 3) (sem : ∀ ds st Q, g_ ds st Q → F_probe_order_at g_is_probe_order g_number_of g_words_behind { nx := fun _ st' => Rt st Q .non st', rt := Rt st Q } (startD 5 ds) st) : Cal P w K mg base T "probe_order_at" s_probe_order_at 3 ["lines", "at", "slots"] g_ := by
  obtain ⟨f, fd, F, b, m⟩ := D.d_probe_order_at
  obtain ⟨f_is_probe_order, fd_is_probe_order, F_is_probe_order_, b_is_probe_order, g_is_probe_order_at, G_is_probe_order⟩ := C_is_probe_order
  obtain ⟨f_number_of, fd_number_of, F_number_of_, b_number_of, g_number_of_at, G_number_of⟩ := C_number_of
  obtain ⟨f_words_behind, fd_words_behind, F_words_behind_, b_words_behind, g_words_behind_at, G_words_behind⟩ := C_words_behind
  exact ⟨f, fd, F, b, m, fnD_mk (k := 2) F sc_probe_order_at ar (fun cdv A outer s H E gd hr => (ds_cons (ds_set (i := 3) sc_probe_order_at.nd rfl (.inl rfl) (de_callTy call_tup2 callD_tup (by rfl) D.z_tuple (by decide +kernel) (da_cons (de_lcG (own := [("word", 4)]) finT_ok rfl sc_probe_order_at.nd (di_seq (de_call G_words_behind gd (hr.mono (by omega)) (by rfl) g_words_behind_at F_words_behind_.kp b_words_behind (da_cons (de_var (pv 0)) (da_cons (de_var (pv 1)) (da_cons (de_str) da_nil))))) (blkOk_by (own := [("word", 4)]) (N := n_probe_order_at) (sc := defScope s_probe_order_at) (by decide +kernel)) (fun _ _ _ _ _ => (dg_name (i := 4) sc_probe_order_at.nd rfl (.inl rfl) (by decide))) (fun _ _ _ _ _ => dts_nil) (fun _ _ _ _ _ => (de_call G_number_of gd (hr.mono (by omega)) (by rfl) g_number_of_at F_number_of_.kp b_number_of (da_cons (de_var (pv 4)) (da_cons (de_int) (da_cons (de_sub (de_var (pv 2)) (de_int)) da_nil)))))) da_nil))) (ds_cons (ds_if (dt_not (dt_val (de_call G_is_probe_order gd (hr.mono (by omega)) (by rfl) g_is_probe_order_at F_is_probe_order_.kp b_is_probe_order (da_cons (de_var (pv 2)) (da_cons (de_var (pv 3)) da_nil))))) (ds_one ds_never) ds_nil) (ds_one (ds_ret (de_var (pv 3))))))) sem⟩
theorem ok_table_at (D : Defs K mg base T) {g_is_table : DRs} (C_is_table : Cal P w K mg base T "is_table" s_is_table 4 ["keys", "value"] g_is_table) {g_words_behind : DRs} (C_words_behind : Cal P w K mg base T "words_behind" s_words_behind 1 ["lines", "at", "first"] g_words_behind) {g_beaten_in : DRs} (C_beaten_in : Cal P w K mg base T "beaten_in" s_beaten_in 2 ["word", "keys"] g_beaten_in) {g_ : DRs} (ar : ∀ ds st Q, g_ ds st Q → ds.length = 3) (sem : ∀ ds st Q, g_ ds st Q → F_table_at g_is_table g_words_behind g_beaten_in { nx := fun _ st' => Rt st Q .non st', rt := Rt st Q } (startD 5 ds) st) : Cal P w K mg base T "table_at" s_table_at 5 ["lines", "at", "keys"] g_ := by
  obtain ⟨f, fd, F, b, m⟩ := D.d_table_at
  obtain ⟨f_is_table, fd_is_table, F_is_table_, b_is_table, g_is_table_at, G_is_table⟩ := C_is_table
  obtain ⟨f_words_behind, fd_words_behind, F_words_behind_, b_words_behind, g_words_behind_at, G_words_behind⟩ := C_words_behind
  obtain ⟨f_beaten_in, fd_beaten_in, F_beaten_in_, b_beaten_in, g_beaten_in_at, G_beaten_in⟩ := C_beaten_in
  exact ⟨f, fd, F, b, m, fnD_mk (k := 4) F sc_table_at ar (fun cdv A outer s H E gd hr => (ds_cons (ds_set (i := 3) sc_table_at.nd rfl (.inl rfl) (de_callTy call_tup2 callD_tup (by rfl) D.z_tuple (by decide +kernel) (da_cons (de_lcG (own := [("word", 4)]) finT_ok rfl sc_table_at.nd (di_seq (de_call G_words_behind gd (hr.mono (by omega)) (by rfl) g_words_behind_at F_words_behind_.kp b_words_behind (da_cons (de_var (pv 0)) (da_cons (de_var (pv 1)) (da_cons (de_str) da_nil))))) (blkOk_by (own := [("word", 4)]) (N := n_table_at) (sc := defScope s_table_at) (by decide +kernel)) (fun _ _ _ _ _ => (dg_name (i := 4) sc_table_at.nd rfl (.inl rfl) (by decide))) (fun _ _ _ _ _ => dts_nil) (fun _ _ _ _ _ => (de_call G_beaten_in gd (hr.mono (by omega)) (by rfl) g_beaten_in_at F_beaten_in_.kp b_beaten_in (da_cons (de_var (pv 4)) (da_cons (de_var (pv 2)) da_nil))))) da_nil))) (ds_cons (ds_if (dt_not (dt_val (de_call G_is_table gd (hr.mono (by omega)) (by rfl) g_is_table_at F_is_table_.kp b_is_table (da_cons (de_var (pv 2)) (da_cons (de_var (pv 3)) da_nil))))) (ds_one ds_never) ds_nil) (ds_one (ds_ret (de_var (pv 3))))))) sem⟩
theorem ok_words_behind (D : Defs K mg base T) {g_ : DRs} (ar : ∀ ds st Q, g_ ds st Q → ds.length = 3) (sem : ∀ ds st Q, g_ ds st Q → F_words_behind { nx := fun _ st' => Rt st Q .non st', rt := Rt st Q } (startD 4 ds) st) : Cal P w K mg base T "words_behind" s_words_behind 1 ["lines", "at", "first"] g_ := by
  obtain ⟨f, fd, F, b, m⟩ := D.d_words_behind
  exact ⟨f, fd, F, b, m, fnD_mk (k := 0) F sc_words_behind ar (fun cdv A outer s H E gd hr => (ds_cons (ds_if (dt_cmpR (op_eq2 hr.units) opD_eq (de_var (pv 1)) (de_callB call_len_seq callD_len (by rfl) D.z_len PySem.boot_len (da_cons (de_var (pv 0)) da_nil)) (nomark _)) (ds_one ds_never) ds_nil) (ds_cons (ds_set (i := 3) sc_words_behind.nd rfl (.inl rfl) (de_split (.inl rfl) (de_ix (de_var (pv 0)) (de_var (pv 1)) (fun _ _ => rfl)) (de_str))) (ds_cons (ds_if (dt_cmpR (op_ne2 hr.units) opD_ne (de_ix (de_var (pv 3)) (de_int) (fun _ _ => rfl)) (de_var (pv 2)) (nomark _)) (ds_one ds_never) ds_nil) (ds_one (ds_ret (de_slice (.inl rfl) (de_var (pv 3)) (do_some (de_int)) do_none))))))) sem⟩
theorem ok_beaten_in (D : Defs K mg base T) {g_number_of : DRs} (C_number_of : Cal P w K mg base T "number_of" s_number_of 1 ["word", "low", "high"] g_number_of) {g_ : DRs} (ar : ∀ ds st Q, g_ ds st Q → ds.length = 2) (sem : ∀ ds st Q, g_ ds st Q → F_beaten_in g_number_of { nx := fun _ st' => Rt st Q .non st', rt := Rt st Q } (startD 3 ds) st) : Cal P w K mg base T "beaten_in" s_beaten_in 2 ["word", "keys"] g_ := by
  obtain ⟨f, fd, F, b, m⟩ := D.d_beaten_in
  obtain ⟨f_number_of, fd_number_of, F_number_of_, b_number_of, g_number_of_at, G_number_of⟩ := C_number_of
  obtain ⟨u_NOTHING, h_c_NOTHING, r_NOTHING⟩ := D.c_NOTHING
  exact ⟨f, fd, F, b, m, fnD_mk (k := 1) F sc_beaten_in ar (fun cdv A outer s H E gd hr => (ds_cons (ds_if (dt_cmpR (op_eq2 hr.units) opD_eq (de_var (pv 0)) (de_globS (by rfl) h_c_NOTHING r_NOTHING) (nomark _)) (ds_one (ds_ret (de_tup da_nil))) ds_nil) (ds_one (ds_ret (de_callTy call_tup2 callD_tup (by rfl) D.z_tuple (by decide +kernel) (da_cons (de_lcG (own := [("part", 2)]) finT_ok rfl sc_beaten_in.nd (di_seq (de_split (.inl rfl) (de_var (pv 0)) (de_str))) (blkOk_by (own := [("part", 2)]) (N := n_beaten_in) (sc := defScope s_beaten_in) (by decide +kernel)) (fun _ _ _ _ _ => (dg_name (i := 2) sc_beaten_in.nd rfl (.inl rfl) (by decide))) (fun _ _ _ _ _ => dts_nil) (fun _ _ _ _ _ => (de_call G_number_of gd (hr.mono (by omega)) (by rfl) g_number_of_at F_number_of_.kp b_number_of (da_cons (de_var (pv 2)) (da_cons (de_int) (da_cons (de_sub (de_var (pv 1)) (de_int)) da_nil)))))) da_nil)))))) sem⟩
theorem ok__law_pot (D : Defs K mg base T) {g_ : DRs} (ar : ∀ ds st Q, g_ ds st Q → ds.length = 2) (sem : ∀ ds st Q, g_ ds st Q → F__law_pot { nx := fun _ st' => Rt st Q .non st', rt := Rt st Q } (startD 4 ds) st) : Cal P w K mg base T "_law_pot" s__law_pot 1 ["_law_script", "_law_k"] g_ := by
  obtain ⟨f, fd, F, b, m⟩ := D.d__law_pot
  exact ⟨f, fd, F, b, m, fnD_mk (k := 0) F sc__law_pot ar (fun cdv A outer s H E gd hr => (ds_cons (ds_set (i := 2) sc__law_pot.nd rfl (.inl rfl) (de_if (dt_cmpR (op_ltG (Nat.lt_of_le_of_lt (Nat.le_add_right _ _) hr.units)) opD_ltG (de_var (pv 1)) (de_callB call_len_seq callD_len (by rfl) D.z_len PySem.boot_len (da_cons (de_var (pv 0)) da_nil)) (nomark _)) (de_ix (de_var (pv 0)) (de_var (pv 1)) (fun _ _ => rfl)) (de_add (de_mul (de_int) (de_var (pv 1))) (de_int)))) (ds_cons (ds_set (i := 3) sc__law_pot.nd rfl (.inl rfl) (de_if (dt_cmpR op_ge (opD_I0 fun _ _ _ _ => .bl _) (de_callB call_abs callD_abs (by rfl) D.z_abs (by decide +kernel) (da_cons (de_var (pv 2)) da_nil)) (de_pow (de_int) (de_int)) (nomark _)) (de_mod (de_callB call_abs callD_abs (by rfl) D.z_abs (by decide +kernel) (da_cons (de_var (pv 2)) da_nil)) (de_pow (de_pow (de_int) (de_int)) (de_int))) (de_int))) (ds_one (ds_ret (de_lstN (da_cons (de_var (pv 3)) (da_cons (de_mod (de_add (de_add (de_mul (de_mod (de_var (pv 2)) (de_int)) (de_int)) (de_mul (de_mul (de_int) (de_var (pv 1))) (de_var (pv 1)))) (de_int)) (de_int)) (da_cons (de_int) da_nil))))))))) sem⟩
theorem ok__law_take (D : Defs K mg base T) {g_ : DRs} (ar : ∀ ds st Q, g_ ds st Q → ds.length = 2) (sem : ∀ ds st Q, g_ ds st Q → F__law_take { nx := fun _ st' => Rt st Q .non st', rt := Rt st Q } (startD 5 ds) st) : Cal P w K mg base T "_law_take" s__law_take 1 ["_law_pot_here", "_law_size"] g_ := by
  obtain ⟨f, fd, F, b, m⟩ := D.d__law_take
  exact ⟨f, fd, F, b, m, fnD_mk (k := 0) F sc__law_take ar (fun cdv A outer s H E gd hr => (ds_cons (ds_if (dt_cmpR op_gt (opD_I0 fun _ _ _ _ => .bl _) (de_ix (de_var (pv 0)) (de_int) (fun _ _ => rfl)) (de_int) (nomark _)) (ds_cons (ds_set (i := 2) sc__law_take.nd rfl (.inl rfl) (de_mod (de_ix (de_var (pv 0)) (de_int) (fun _ _ => rfl)) (de_var (pv 1)))) (ds_cons (ds_asg (vs := []) (de_div (de_ix (de_var (pv 0)) (de_int) (fun _ _ => rfl)) (de_var (pv 1))) (dg_sub (de_var (pv 0)) (de_int))) (ds_one (ds_ret (de_var (pv 2)))))) ds_nil) (ds_cons (ds_asg (vs := []) (de_add (de_ix (de_var (pv 0)) (de_int) (fun _ _ => rfl)) (de_int)) (dg_sub (de_var (pv 0)) (de_int))) (ds_cons (ds_set (i := 3) sc__law_take.nd rfl (.inl rfl) (de_ix (de_lst (da_cons (de_int) (da_cons (de_int) (da_cons (de_int) (da_cons (de_int) (da_cons (de_int) da_nil)))))) (de_mod (de_ix (de_var (pv 0)) (de_int) (fun _ _ => rfl)) (de_int)) (fun _ _ => rfl))) (ds_cons (ds_set (i := 4) sc__law_take.nd rfl (.inl rfl) (de_mod (de_pow (de_add (de_add (de_ix (de_var (pv 0)) (de_int) (fun _ _ => rfl)) (de_mul (de_mul (de_int) (de_ix (de_var (pv 0)) (de_int) (fun _ _ => rfl))) (de_ix (de_var (pv 0)) (de_int) (fun _ _ => rfl)))) (de_int)) (de_int)) (de_var (pv 3)))) (ds_one (ds_ret (de_mod (de_div (de_mod (de_mul (de_var (pv 4)) (de_add (de_mod (de_var (pv 4)) (de_int)) (de_mul (de_int) (de_ix (de_var (pv 0)) (de_int) (fun _ _ => rfl))))) (de_int)) (de_int)) (de_var (pv 1)))))))))) sem⟩
theorem ok__law_pick (D : Defs K mg base T) {g__law_take : DRs} (C__law_take : Cal P w K mg base T "_law_take" s__law_take 1 ["_law_pot_here", "_law_size"] g__law_take) {g_ : DRs} (ar : ∀ ds st Q, g_ ds st Q → ds.length = 2) (sem : ∀ ds st Q, g_ ds st Q → F__law_pick g__law_take { nx := fun _ st' => Rt st Q .non st', rt := Rt st Q } (startD 2 ds) st) : Cal P w K mg base T "_law_pick" s__law_pick 2 ["_law_pot_here", "_law_some"] g_ := by
  obtain ⟨f, fd, F, b, m⟩ := D.d__law_pick
  obtain ⟨f__law_take, fd__law_take, F__law_take_, b__law_take, g__law_take_at, G__law_take⟩ := C__law_take
  exact ⟨f, fd, F, b, m, fnD_mk (k := 1) F sc__law_pick ar (fun cdv A outer s H E gd hr => (ds_one (ds_ret (de_ix (de_var (pv 1)) (de_call G__law_take gd (hr.mono (by omega)) (by rfl) g__law_take_at F__law_take_.kp b__law_take (da_cons (de_var (pv 0)) (da_cons (de_callB call_len_seq callD_len (by rfl) D.z_len PySem.boot_len (da_cons (de_var (pv 1)) da_nil)) da_nil))) (fun _ _ => rfl))))) sem⟩
theorem ok__law_mixed (D : Defs K mg base T) {g__law_take : DRs} (C__law_take : Cal P w K mg base T "_law_take" s__law_take 1 ["_law_pot_here", "_law_size"] g__law_take) {g_ : DRs} (ar : ∀ ds st Q, g_ ds st Q → ds.length = 2) (sem : ∀ ds st Q, g_ ds st Q → F__law_mixed g__law_take { nx := fun _ st' => Rt st Q .non st', rt := Rt st Q } (startD 4 ds) st) : Cal P w K mg base T "_law_mixed" s__law_mixed 2 ["_law_pot_here", "_law_some"] g_ := by
  obtain ⟨f, fd, F, b, m⟩ := D.d__law_mixed
  obtain ⟨f__law_take, fd__law_take, F__law_take_, b__law_take, g__law_take_at, G__law_take⟩ := C__law_take
  exact ⟨f, fd, F, b, m, fnD_mk (k := 1) F sc__law_mixed ar (fun cdv A outer s H E gd hr => (ds_cons (ds_par (i := 2) (j := 3) rfl sc__law_mixed.nd rfl rfl (by decide) rfl rfl (da_cons (de_callTy call_list_of callD_listN (by rfl) D.z_list (by decide +kernel) (da_cons (de_var (pv 1)) da_nil)) (da_cons (de_lstN da_nil) da_nil)) (by rfl)) (ds_cons (ds_while PassesOwn.never (dt_cmpR (op_ne2 hr.units) opD_ne (de_var (pv 2)) (de_lst da_nil) (nomark _)) (ds_one (ds_expr (de_bmL PySem.F.slot_list_append PySem.F.type_list_append mt_append mtD_append (de_var (pv 3)) (da_cons (de_bmL PySem.F.slot_list_pop PySem.F.type_list_pop mt_popAt mtD_popAt (de_var (pv 2)) (da_cons (de_call G__law_take gd (hr.mono (by omega)) (by rfl) g__law_take_at F__law_take_.kp b__law_take (da_cons (de_var (pv 0)) (da_cons (de_callB call_len_seq callD_len (by rfl) D.z_len PySem.boot_len (da_cons (de_var (pv 2)) da_nil)) da_nil))) da_nil)) da_nil))))) (ds_one (ds_ret (de_var (pv 3))))))) sem⟩
theorem ok__law_line (D : Defs K mg base T) {g_ : DRs} (ar : ∀ ds st Q, g_ ds st Q → ds.length = 2) (sem : ∀ ds st Q, g_ ds st Q → F__law_line { nx := fun _ st' => Rt st Q .non st', rt := Rt st Q } (startD 3 ds) st) : Cal P w K mg base T "_law_line" s__law_line 1 ["_law_size", "_law_begin"] g_ := by
  obtain ⟨f, fd, F, b, m⟩ := D.d__law_line
  exact ⟨f, fd, F, b, m, fnD_mk (k := 0) F sc__law_line ar (fun cdv A outer s H E gd hr => (ds_one (ds_ret (de_callTy call_tup2 callD_tup (by rfl) D.z_tuple (by decide +kernel) (da_cons (de_lcG (own := [("_law_at", 2)]) finT_ok rfl sc__law_line.nd (di_range1 (by rfl) D.z_range (da_cons (de_var (pv 0)) da_nil)) (blkOk_by (own := [("_law_at", 2)]) (N := n__law_line) (sc := defScope s__law_line) (by decide +kernel)) (fun _ _ _ _ _ => (dg_name (i := 2) sc__law_line.nd rfl (.inl rfl) (by decide))) (fun _ _ _ _ _ => dts_nil) (fun _ _ _ _ _ => (de_mod (de_add (de_var (pv 1)) (de_var (pv 2))) (de_var (pv 0))))) da_nil))))) sem⟩
theorem ok__law_probe (D : Defs K mg base T) {g__law_take : DRs} (C__law_take : Cal P w K mg base T "_law_take" s__law_take 1 ["_law_pot_here", "_law_size"] g__law_take) {g__law_mixed : DRs} (C__law_mixed : Cal P w K mg base T "_law_mixed" s__law_mixed 2 ["_law_pot_here", "_law_some"] g__law_mixed) {g__law_line : DRs} (C__law_line : Cal P w K mg base T "_law_line" s__law_line 1 ["_law_size", "_law_begin"] g__law_line) {g_ : DRs} (ar : ∀ ds st Q, g_ ds st Q → ds.length = 2) (sem : ∀ ds st Q, g_ ds st Q → F__law_probe g__law_take g__law_mixed g__law_line { nx := fun _ st' => Rt st Q .non st', rt := Rt st Q } (startD 2 ds) st) : Cal P w K mg base T "_law_probe" s__law_probe 3 ["_law_pot_here", "_law_size"] g_ := by
  obtain ⟨f, fd, F, b, m⟩ := D.d__law_probe
  obtain ⟨f__law_take, fd__law_take, F__law_take_, b__law_take, g__law_take_at, G__law_take⟩ := C__law_take
  obtain ⟨f__law_mixed, fd__law_mixed, F__law_mixed_, b__law_mixed, g__law_mixed_at, G__law_mixed⟩ := C__law_mixed
  obtain ⟨f__law_line, fd__law_line, F__law_line_, b__law_line, g__law_line_at, G__law_line⟩ := C__law_line
  exact ⟨f, fd, F, b, m, fnD_mk (k := 2) F sc__law_probe ar (fun cdv A outer s H E gd hr => (ds_cons (ds_if (dt_cmpR (op_eq2 hr.units) opD_eq (de_call G__law_take gd (hr.mono (by omega)) (by rfl) g__law_take_at F__law_take_.kp b__law_take (da_cons (de_var (pv 0)) (da_cons (de_int) da_nil))) (de_int) (nomark _)) (ds_one (ds_ret (de_call G__law_line gd (hr.mono (by omega)) (by rfl) g__law_line_at F__law_line_.kp b__law_line (da_cons (de_var (pv 1)) (da_cons (de_call G__law_take gd (hr.mono (by omega)) (by rfl) g__law_take_at F__law_take_.kp b__law_take (da_cons (de_var (pv 0)) (da_cons (de_var (pv 1)) da_nil))) da_nil))))) ds_nil) (ds_one (ds_ret (de_callTy call_tup2 callD_tup (by rfl) D.z_tuple (by decide +kernel) (da_cons (de_call G__law_mixed gd (hr.mono (by omega)) (by rfl) g__law_mixed_at F__law_mixed_.kp b__law_mixed (da_cons (de_var (pv 0)) (da_cons (de_listRg1 (.inl rfl) rfl (by rfl) D.z_list (by rfl) D.z_range (de_var (pv 1))) da_nil))) da_nil)))))) sem⟩
theorem ok__law_ordered_table (D : Defs K mg base T) {g_ : DRs} (ar : ∀ ds st Q, g_ ds st Q → ds.length = 1) (sem : ∀ ds st Q, g_ ds st Q → F__law_ordered_table { nx := fun _ st' => Rt st Q .non st', rt := Rt st Q } (startD 2 ds) st) : Cal P w K mg base T "_law_ordered_table" s__law_ordered_table 1 ["_law_order"] g_ := by
  obtain ⟨f, fd, F, b, m⟩ := D.d__law_ordered_table
  exact ⟨f, fd, F, b, m, fnD_mk (k := 0) F sc__law_ordered_table ar (fun cdv A outer s H E gd hr => (ds_one (ds_ret (de_callTy call_tup2 callD_tup (by rfl) D.z_tuple (by decide +kernel) (da_cons (de_lcG (own := [("_law_one", 1)]) finT_ok rfl sc__law_ordered_table.nd (di_range1 (by rfl) D.z_range (da_cons (de_callB call_len_seq callD_len (by rfl) D.z_len PySem.boot_len (da_cons (de_var (pv 0)) da_nil)) da_nil)) (blkOk_by (own := [("_law_one", 1)]) (N := n__law_ordered_table) (sc := defScope s__law_ordered_table) (by decide +kernel)) (fun _ _ _ _ _ => (dg_name (i := 1) sc__law_ordered_table.nd rfl (.inl rfl) (by decide))) (fun _ _ _ _ _ => dts_nil) (fun _ _ _ _ _ => (de_callTy call_tup2 callD_tup (by rfl) D.z_tuple (by decide +kernel) (da_cons (de_callB call_sort2 (callD_sort (.inl rfl)) (by rfl) D.z_sorted (by decide +kernel) (da_cons (de_slice (.inl rfl) (de_var (pv 0)) (do_some (de_add (de_index (de_var (pv 0)) (da_cons (de_var (pv 1)) da_nil)) (de_int))) do_none) da_nil)) da_nil)))) da_nil))))) sem⟩
theorem ok__law_any_table (D : Defs K mg base T) {g__law_pick : DRs} (C__law_pick : Cal P w K mg base T "_law_pick" s__law_pick 2 ["_law_pot_here", "_law_some"] g__law_pick) {g_ : DRs} (ar : ∀ ds st Q, g_ ds st Q → ds.length = 2) (sem : ∀ ds st Q, g_ ds st Q → F__law_any_table g__law_pick { nx := fun _ st' => Rt st Q .non st', rt := Rt st Q } (startD 8 ds) st) : Cal P w K mg base T "_law_any_table" s__law_any_table 3 ["_law_pot_here", "_law_size"] g_ := by
  obtain ⟨f, fd, F, b, m⟩ := D.d__law_any_table
  obtain ⟨f__law_pick, fd__law_pick, F__law_pick_, b__law_pick, g__law_pick_at, G__law_pick⟩ := C__law_pick
  exact ⟨f, fd, F, b, m, fnD_mk (k := 2) F sc__law_any_table ar (fun cdv A outer s H E gd hr => (ds_cons (ds_setLcG (i := 3) finT_ok rfl sc__law_any_table.nd rfl rfl (sw_true rfl rfl rfl (by decide +kernel)) (di_range1 (by rfl) D.z_range (da_cons (de_var (pv 1)) da_nil)) (blkOk_by (own := [("_law_one", 2)]) (N := n__law_any_table) (sc := defScope s__law_any_table) (by decide +kernel)) (fun _ _ _ _ _ => (dg_name (i := 2) sc__law_any_table.nd rfl (.inl rfl) (by decide))) (fun _ _ _ _ _ => dts_nil) (fun _ _ _ _ _ => (de_lstN da_nil))) (ds_cons (ds_for (vs := [2]) PassesOwn.never rfl (di_range1 (by rfl) D.z_range (da_cons (de_var (pv 1)) da_nil)) (dg_name (i := 2) sc__law_any_table.nd rfl (.inl rfl) (by decide)) (ds_one (ds_for (vs := [4]) PassesOwn.never rfl (di_range1 (by rfl) D.z_range (da_cons (de_var (pv 2)) da_nil)) (dg_name (i := 4) sc__law_any_table.nd rfl (.inl rfl) (by decide)) (ds_cons (ds_set (i := 5) sc__law_any_table.nd rfl (.inl rfl) (de_call G__law_pick gd (hr.mono (by omega)) (by rfl) g__law_pick_at F__law_pick_.kp b__law_pick (da_cons (de_var (pv 0)) (da_cons (de_lst (da_cons (de_var (pv 2)) (da_cons (de_var (pv 4)) da_nil))) da_nil)))) (ds_cons (ds_set (i := 6) sc__law_any_table.nd rfl (.inl rfl) (de_ix (de_var (pv 3)) (de_var (pv 5)) (fun _ _ => rfl))) (ds_one (ds_expr (de_bmL PySem.F.slot_list_append PySem.F.type_list_append mt_append mtD_append (de_var (pv 6)) (da_cons (de_sub (de_add (de_var (pv 2)) (de_var (pv 4))) (de_var (pv 5))) da_nil))))))))) (ds_one (ds_ret (de_callTy call_tup2 callD_tup (by rfl) D.z_tuple (by decide +kernel) (da_cons (de_lcG (own := [("_law_row", 7)]) finT_ok rfl sc__law_any_table.nd (di_seq (de_var (pv 3))) (blkOk_by (own := [("_law_row", 7)]) (N := n__law_any_table) (sc := defScope s__law_any_table) (by decide +kernel)) (fun _ _ _ _ _ => (dg_name (i := 7) sc__law_any_table.nd rfl (.inl rfl) (by decide))) (fun _ _ _ _ _ => dts_nil) (fun _ _ _ _ _ => (de_callTy call_tup2 callD_tup (by rfl) D.z_tuple (by decide +kernel) (da_cons (de_callB call_sort2 (callD_sort (.inl rfl)) (by rfl) D.z_sorted (by decide +kernel) (da_cons (de_var (pv 7)) da_nil)) da_nil)))) da_nil))))))) sem⟩
theorem ok__law_turned (D : Defs K mg base T) {g__law_mixed : DRs} (C__law_mixed : Cal P w K mg base T "_law_mixed" s__law_mixed 2 ["_law_pot_here", "_law_some"] g__law_mixed) {g_ : DRs} (ar : ∀ ds st Q, g_ ds st Q → ds.length = 2) (sem : ∀ ds st Q, g_ ds st Q → F__law_turned g__law_mixed { nx := fun _ st' => Rt st Q .non st', rt := Rt st Q } (startD 12 ds) st) : Cal P w K mg base T "_law_turned" s__law_turned 3 ["_law_pot_here", "_law_table_here"] g_ := by
  obtain ⟨f, fd, F, b, m⟩ := D.d__law_turned
  obtain ⟨f__law_mixed, fd__law_mixed, F__law_mixed_, b__law_mixed, g__law_mixed_at, G__law_mixed⟩ := C__law_mixed
  exact ⟨f, fd, F, b, m, fnD_mk (k := 2) F sc__law_turned ar (fun cdv A outer s H E gd hr => (ds_cons (ds_if (dt_cmpR (op_ltG (Nat.lt_of_le_of_lt (Nat.le_add_right _ _) hr.units)) opD_ltG (de_callB call_len_seq callD_len (by rfl) D.z_len PySem.boot_len (da_cons (de_var (pv 1)) da_nil)) (de_int) (nomark _)) (ds_one (ds_ret (de_var (pv 1)))) ds_nil) (ds_cons (ds_asg (vs := [2, 3]) (de_slice (.inl rfl) (de_call G__law_mixed gd (hr.mono (by omega)) (by rfl) g__law_mixed_at F__law_mixed_.kp b__law_mixed (da_cons (de_var (pv 0)) (da_cons (de_listRg1 (.inl rfl) rfl (by rfl) D.z_list (by rfl) D.z_range (de_callB call_len_seq callD_len (by rfl) D.z_len PySem.boot_len (da_cons (de_var (pv 1)) da_nil))) da_nil))) do_none (do_some (de_int))) (dg_tup rfl (dgs_cons (dg_name (i := 2) sc__law_turned.nd rfl (.inl rfl) (by decide)) (dgs_cons (dg_name (i := 3) sc__law_turned.nd rfl (.inl rfl) (by decide)) dgs_nil)))) (ds_cons (ds_asg (vs := [4, 5]) (de_tup (da_cons (de_callB call_sort2 (callD_sort (.inl rfl)) (by rfl) D.z_sorted (by decide +kernel) (da_cons (de_lst (da_cons (de_var (pv 2)) (da_cons (de_var (pv 3)) da_nil))) da_nil)) (da_cons (de_lstN da_nil) da_nil))) (dg_tup rfl (dgs_cons (dg_name (i := 4) sc__law_turned.nd rfl (.inr rfl) (by decide)) (dgs_cons (dg_name (i := 5) sc__law_turned.nd rfl (.inl rfl) (by decide)) dgs_nil)))) (ds_cons (ds_for (vs := [6, 7]) PassesOwn.never rfl (di_enum (by rfl) D.z_enumerate (da_cons (de_var (pv 1)) da_nil)) (dg_tup rfl (dgs_cons (dg_name (i := 6) sc__law_turned.nd rfl (.inr rfl) (by decide)) (dgs_cons (dg_name (i := 7) sc__law_turned.nd rfl (.inl rfl) (by decide)) dgs_nil))) (ds_one (ds_expr (de_bmL PySem.F.slot_list_append PySem.F.type_list_append mt_append mtD_append (de_var (pv 5)) (da_cons (de_lcG (own := [("_law_near", 11)]) finN_ok rfl sc__law_turned.nd (di_seq (de_var (pv 7))) (blkOk_by (own := [("_law_near", 11)]) (N := n__law_turned) (sc := defScope s__law_turned) (by decide +kernel)) (fun _ _ _ _ _ => (dg_name (i := 11) sc__law_turned.nd rfl (.inl rfl) (by decide))) (fun _ _ _ _ _ => (dts_one (dt_cmpR (op_ne2 hr.units) opD_ne (de_callB call_sort2 (callD_sort (.inl rfl)) (by rfl) D.z_sorted (by decide +kernel) (da_cons (de_lst (da_cons (de_var (pv 6)) (da_cons (de_var (pv 11)) da_nil))) da_nil)) (de_var (pv 4)) (nomark _)))) (fun _ _ _ _ _ => (de_var (pv 11)))) da_nil))))) (ds_cons (ds_asg (vs := [8, 9]) (de_if (dt_cmpR op_in_seq (opD_in false) (de_var (pv 3)) (de_ix (de_var (pv 1)) (de_var (pv 2)) (fun _ _ => rfl)) (by rfl)) (de_tup (da_cons (de_var (pv 3)) (da_cons (de_var (pv 2)) da_nil))) (de_tup (da_cons (de_var (pv 2)) (da_cons (de_var (pv 3)) da_nil)))) (dg_tup rfl (dgs_cons (dg_name (i := 8) sc__law_turned.nd rfl (.inl rfl) (by decide)) (dgs_cons (dg_name (i := 9) sc__law_turned.nd rfl (.inl rfl) (by decide)) dgs_nil)))) (ds_cons (ds_set (i := 10) sc__law_turned.nd rfl (.inl rfl) (de_ix (de_var (pv 5)) (de_var (pv 8)) (fun _ _ => rfl))) (ds_cons (ds_expr (de_bmL PySem.F.slot_list_append PySem.F.type_list_append mt_append mtD_append (de_var (pv 10)) (da_cons (de_var (pv 9)) da_nil))) (ds_one (ds_ret (de_callTy call_tup2 callD_tup (by rfl) D.z_tuple (by decide +kernel) (da_cons (de_lcG (own := [("_law_row", 7)]) finT_ok rfl sc__law_turned.nd (di_seq (de_var (pv 5))) (blkOk_by (own := [("_law_row", 7)]) (N := n__law_turned) (sc := defScope s__law_turned) (by decide +kernel)) (fun _ _ _ _ _ => (dg_name (i := 7) sc__law_turned.nd rfl (.inl rfl) (by decide))) (fun _ _ _ _ _ => dts_nil) (fun _ _ _ _ _ => (de_callTy call_tup2 callD_tup (by rfl) D.z_tuple (by decide +kernel) (da_cons (de_callB call_sort2 (callD_sort (.inl rfl)) (by rfl) D.z_sorted (by decide +kernel) (da_cons (de_var (pv 7)) da_nil)) da_nil)))) da_nil)))))))))))) sem⟩
theorem ok__law_table (D : Defs K mg base T) {g__law_take : DRs} (C__law_take : Cal P w K mg base T "_law_take" s__law_take 1 ["_law_pot_here", "_law_size"] g__law_take) {g__law_mixed : DRs} (C__law_mixed : Cal P w K mg base T "_law_mixed" s__law_mixed 2 ["_law_pot_here", "_law_some"] g__law_mixed) {g__law_ordered_table : DRs} (C__law_ordered_table : Cal P w K mg base T "_law_ordered_table" s__law_ordered_table 1 ["_law_order"] g__law_ordered_table) {g__law_any_table : DRs} (C__law_any_table : Cal P w K mg base T "_law_any_table" s__law_any_table 3 ["_law_pot_here", "_law_size"] g__law_any_table) {g__law_turned : DRs} (C__law_turned : Cal P w K mg base T "_law_turned" s__law_turned 3 ["_law_pot_here", "_law_table_here"] g__law_turned) {g_ : DRs} (ar : ∀ ds st Q, g_ ds st Q → ds.length = 2) (sem : ∀ ds st Q, g_ ds st Q → F__law_table g__law_take g__law_mixed g__law_ordered_table g__law_any_table g__law_turned { nx := fun _ st' => Rt st Q .non st', rt := Rt st Q } (startD 4 ds) st) : Cal P w K mg base T "_law_table" s__law_table 4 ["_law_pot_here", "_law_size"] g_ := by
  obtain ⟨f, fd, F, b, m⟩ := D.d__law_table
  obtain ⟨f__law_take, fd__law_take, F__law_take_, b__law_take, g__law_take_at, G__law_take⟩ := C__law_take
  obtain ⟨f__law_mixed, fd__law_mixed, F__law_mixed_, b__law_mixed, g__law_mixed_at, G__law_mixed⟩ := C__law_mixed
  obtain ⟨f__law_ordered_table, fd__law_ordered_table, F__law_ordered_table_, b__law_ordered_table, g__law_ordered_table_at, G__law_ordered_table⟩ := C__law_ordered_table
  obtain ⟨f__law_any_table, fd__law_any_table, F__law_any_table_, b__law_any_table, g__law_any_table_at, G__law_any_table⟩ := C__law_any_table
  obtain ⟨f__law_turned, fd__law_turned, F__law_turned_, b__law_turned, g__law_turned_at, G__law_turned⟩ := C__law_turned
  exact ⟨f, fd, F, b, m, fnD_mk (k := 3) F sc__law_table ar (fun cdv A outer s H E gd hr => (ds_cons (ds_set (i := 2) sc__law_table.nd rfl (.inl rfl) (de_call G__law_take gd (hr.mono (by omega)) (by rfl) g__law_take_at F__law_take_.kp b__law_take (da_cons (de_var (pv 0)) (da_cons (de_int) da_nil)))) (ds_cons (ds_if (dt_cmpR (op_eq2 hr.units) opD_eq (de_var (pv 2)) (de_int) (nomark _)) (ds_one (ds_ret (de_call G__law_any_table gd (hr.mono (by omega)) (by rfl) g__law_any_table_at F__law_any_table_.kp b__law_any_table (da_cons (de_var (pv 0)) (da_cons (de_var (pv 1)) da_nil))))) ds_nil) (ds_cons (ds_set (i := 3) sc__law_table.nd rfl (.inl rfl) (de_call G__law_ordered_table gd (hr.mono (by omega)) (by rfl) g__law_ordered_table_at F__law_ordered_table_.kp b__law_ordered_table (da_cons (de_call G__law_mixed gd (hr.mono (by omega)) (by rfl) g__law_mixed_at F__law_mixed_.kp b__law_mixed (da_cons (de_var (pv 0)) (da_cons (de_listRg1 (.inl rfl) rfl (by rfl) D.z_list (by rfl) D.z_range (de_var (pv 1))) da_nil))) da_nil))) (ds_one (ds_ret (de_if (dt_cmpR (op_eq2 hr.units) opD_eq (de_var (pv 2)) (de_int) (nomark _)) (de_call G__law_turned gd (hr.mono (by omega)) (by rfl) g__law_turned_at F__law_turned_.kp b__law_turned (da_cons (de_var (pv 0)) (da_cons (de_var (pv 3)) da_nil))) (de_var (pv 3))))))))) sem⟩
theorem ok__law_setting (D : Defs K mg base T) {g__law_mixed : DRs} (C__law_mixed : Cal P w K mg base T "_law_mixed" s__law_mixed 2 ["_law_pot_here", "_law_some"] g__law_mixed) {g__law_probe : DRs} (C__law_probe : Cal P w K mg base T "_law_probe" s__law_probe 3 ["_law_pot_here", "_law_size"] g__law_probe) {g__law_ordered_table : DRs} (C__law_ordered_table : Cal P w K mg base T "_law_ordered_table" s__law_ordered_table 1 ["_law_order"] g__law_ordered_table) {g__law_table : DRs} (C__law_table : Cal P w K mg base T "_law_table" s__law_table 4 ["_law_pot_here", "_law_size"] g__law_table) {g_ : DRs} (ar : ∀ ds st Q, g_ ds st Q → ds.length = 4) (sem : ∀ ds st Q, g_ ds st Q → F__law_setting_v4 g__law_mixed g__law_probe g__law_ordered_table g__law_table { nx := fun _ st' => Rt st Q .non st', rt := Rt st Q } (startD 8 ds) st) : Cal P w K mg base T "_law_setting" s__law_setting 5 ["_law_pot_here", "_law_many", "_law_spots", "_law_is_even"] g_ := by
  obtain ⟨f, fd, F, b, m⟩ := D.d__law_setting
  obtain ⟨f__law_mixed, fd__law_mixed, F__law_mixed_, b__law_mixed, g__law_mixed_at, G__law_mixed⟩ := C__law_mixed
  obtain ⟨f__law_probe, fd__law_probe, F__law_probe_, b__law_probe, g__law_probe_at, G__law_probe⟩ := C__law_probe
  obtain ⟨f__law_ordered_table, fd__law_ordered_table, F__law_ordered_table_, b__law_ordered_table, g__law_ordered_table_at, G__law_ordered_table⟩ := C__law_ordered_table
  obtain ⟨f__law_table, fd__law_table, F__law_table_, b__law_table, g__law_table_at, G__law_table⟩ := C__law_table
  exact ⟨f, fd, F, b, m, fnD_mk (k := 4) F sc__law_setting ar (fun cdv A outer s H E gd hr => (ds_cons (ds_setLcG (i := 4) finT_ok rfl sc__law_setting.nd rfl rfl (sw_true rfl rfl rfl (by decide +kernel)) (di_range1 (by rfl) D.z_range (da_cons (de_var (pv 1)) da_nil)) (blkOk_by (own := [("_law_one", 6)]) (N := n__law_setting) (sc := defScope s__law_setting) (by decide +kernel)) (fun _ _ _ _ _ => (dg_name (i := 6) sc__law_setting.nd rfl (.inl rfl) (by decide))) (fun _ _ _ _ _ => dts_nil) (fun _ _ _ _ _ => (de_call G__law_probe gd (hr.mono (by omega)) (by rfl) g__law_probe_at F__law_probe_.kp b__law_probe (da_cons (de_var (pv 0)) (da_cons (de_var (pv 2)) da_nil))))) (ds_cons (ds_if (dt_val (de_var (pv 3))) (ds_one (ds_setLcG (i := 5) finT_ok rfl sc__law_setting.nd rfl rfl (sw_true rfl rfl rfl (by decide +kernel)) (di_range1 (by rfl) D.z_range (da_cons (de_var (pv 2)) da_nil)) (blkOk_by (own := [("_law_spot", 7)]) (N := n__law_setting) (sc := defScope s__law_setting) (by decide +kernel)) (fun _ _ _ _ _ => (dg_name (i := 7) sc__law_setting.nd rfl (.inl rfl) (by decide))) (fun _ _ _ _ _ => dts_nil) (fun _ _ _ _ _ => (de_call G__law_ordered_table gd (hr.mono (by omega)) (by rfl) g__law_ordered_table_at F__law_ordered_table_.kp b__law_ordered_table (da_cons (de_call G__law_mixed gd (hr.mono (by omega)) (by rfl) g__law_mixed_at F__law_mixed_.kp b__law_mixed (da_cons (de_var (pv 0)) (da_cons (de_listRg1 (.inl rfl) rfl (by rfl) D.z_list (by rfl) D.z_range (de_var (pv 1))) da_nil))) da_nil))))) (ds_one (ds_setLcG (i := 5) finT_ok rfl sc__law_setting.nd rfl rfl (sw_true rfl rfl rfl (by decide +kernel)) (di_range1 (by rfl) D.z_range (da_cons (de_var (pv 2)) da_nil)) (blkOk_by (own := [("_law_spot", 7)]) (N := n__law_setting) (sc := defScope s__law_setting) (by decide +kernel)) (fun _ _ _ _ _ => (dg_name (i := 7) sc__law_setting.nd rfl (.inl rfl) (by decide))) (fun _ _ _ _ _ => dts_nil) (fun _ _ _ _ _ => (de_call G__law_table gd (hr.mono (by omega)) (by rfl) g__law_table_at F__law_table_.kp b__law_table (da_cons (de_var (pv 0)) (da_cons (de_var (pv 1)) da_nil))))))) (ds_one (ds_ret (de_tup (da_cons (de_callTy call_tup2 callD_tup (by rfl) D.z_tuple (by decide +kernel) (da_cons (de_var (pv 4)) da_nil)) (da_cons (de_callTy call_tup2 callD_tup (by rfl) D.z_tuple (by decide +kernel) (da_cons (de_var (pv 5)) da_nil)) da_nil)))))))) sem⟩
theorem ok__law_text (D : Defs K mg base T) {g_ : DRs} (ar : ∀ ds st Q, g_ ds st Q → ds.length = 2) (sem : ∀ ds st Q, g_ ds st Q → F__law_text { nx := fun _ st' => Rt st Q .non st', rt := Rt st Q } (startD 9 ds) st) : Cal P w K mg base T "_law_text" s__law_text 1 ["_law_probe_rows", "_law_tables"] g_ := by
  obtain ⟨f, fd, F, b, m⟩ := D.d__law_text
  exact ⟨f, fd, F, b, m, fnD_mk (k := 0) F sc__law_text ar (fun cdv A outer s H E gd hr => (ds_cons (ds_set (i := 2) sc__law_text.nd rfl (.inl rfl) (de_lstN (da_cons (de_addS (de_addS (de_addS (de_str) (de_callTy call_str_int callD_strI (by rfl) D.z_str (by decide +kernel) (da_cons (de_callB call_len_seq callD_len (by rfl) D.z_len PySem.boot_len (da_cons (de_var (pv 0)) da_nil)) da_nil))) (de_str)) (de_callTy call_str_int callD_strI (by rfl) D.z_str (by decide +kernel) (da_cons (de_callB call_len_seq callD_len (by rfl) D.z_len PySem.boot_len (da_cons (de_var (pv 1)) da_nil)) da_nil))) da_nil))) (ds_cons (ds_expr (de_bmL PySem.F.slot_list_extend PySem.F.type_list_extend mt_extend mtD_extend (de_var (pv 2)) (da_cons (de_lcG (own := [("_law_probe_here", 5)]) finT_ok rfl sc__law_text.nd (di_seq (de_var (pv 0))) (blkOk_by (own := [("_law_probe_here", 5)]) (N := n__law_text) (sc := defScope s__law_text) (by decide +kernel)) (fun _ _ _ _ _ => (dg_name (i := 5) sc__law_text.nd rfl (.inl rfl) (by decide))) (fun _ _ _ _ _ => dts_nil) (fun _ _ _ _ _ => (de_join (de_str) (de_add (de_lst (da_cons (de_str) da_nil)) (de_lcG (own := [("_law_spot", 7)]) finT_ok rfl sc__law_text.nd (di_seq (de_var (pv 5))) (blkOk_by (own := [("_law_spot", 7)]) (by rfl)) (fun _ _ _ _ _ => (dg_name (i := 7) sc__law_text.nd rfl (.inl rfl) (by decide))) (fun _ _ _ _ _ => dts_nil) (fun _ _ _ _ _ => (de_callTy call_str_int callD_strI (by rfl) D.z_str (by decide +kernel) (da_cons (de_var (pv 7)) da_nil)))))))) da_nil))) (ds_cons (ds_for (vs := [3]) PassesOwn.never rfl (di_seq (de_var (pv 1))) (dg_name (i := 3) sc__law_text.nd rfl (.inl rfl) (by decide)) (ds_cons (ds_setLcG (i := 4) finT_ok rfl sc__law_text.nd rfl rfl (sw_true rfl rfl rfl (by decide +kernel)) (di_seq (de_var (pv 3))) (blkOk_by (own := [("_law_row", 6)]) (N := n__law_text) (sc := defScope s__law_text) (by decide +kernel)) (fun _ _ _ _ _ => (dg_name (i := 6) sc__law_text.nd rfl (.inl rfl) (by decide))) (fun _ _ _ _ _ => dts_nil) (fun _ _ _ _ _ => (de_if (dt_cmpR (op_ne2 hr.units) opD_ne (de_var (pv 6)) (de_tup da_nil) (nomark _)) (de_join (de_str) (de_lcG (own := [("_law_one", 8)]) finT_ok rfl sc__law_text.nd (di_seq (de_var (pv 6))) (blkOk_by (own := [("_law_one", 8)]) (by rfl)) (fun _ _ _ _ _ => (dg_name (i := 8) sc__law_text.nd rfl (.inl rfl) (by decide))) (fun _ _ _ _ _ => dts_nil) (fun _ _ _ _ _ => (de_callTy call_str_int callD_strI (by rfl) D.z_str (by decide +kernel) (da_cons (de_var (pv 8)) da_nil))))) (de_str)))) (ds_one (ds_expr (de_bmL PySem.F.slot_list_append PySem.F.type_list_append mt_append mtD_append (de_var (pv 2)) (da_cons (de_join (de_str) (de_add (de_lst (da_cons (de_str) da_nil)) (de_var (pv 4)))) da_nil)))))) (ds_one (ds_ret (de_join (de_str) (de_var (pv 2))))))))) sem⟩
set_option maxHeartbeats 0 in
theorem ok__law_right (D : Defs K mg base T) {g_are_probes : DRs} (C_are_probes : Cal P w K mg base T "are_probes" s_are_probes 3 ["value"] g_are_probes) {g_is_rule : DRs} (C_is_rule : Cal P w K mg base T "is_rule" s_is_rule 5 ["value"] g_is_rule) {g_show_setting : DRs} (C_show_setting : Cal P w K mg base T "show_setting" s_show_setting 2 ["probes", "rule"] g_show_setting) {g_read_setting : DRs} (C_read_setting : Cal P w K mg base T "read_setting" s_read_setting 6 ["source"] g_read_setting) {g__law_take : DRs} (C__law_take : Cal P w K mg base T "_law_take" s__law_take 1 ["_law_pot_here", "_law_size"] g__law_take) {g__law_setting : DRs} (C__law_setting : Cal P w K mg base T "_law_setting" s__law_setting 5 ["_law_pot_here", "_law_many", "_law_spots", "_law_is_even"] g__law_setting) {g__law_text : DRs} (C__law_text : Cal P w K mg base T "_law_text" s__law_text 1 ["_law_probe_rows", "_law_tables"] g__law_text) {g_ : DRs} (ar : ∀ ds st Q, g_ ds st Q → ds.length = 1) (sem : ∀ ds st Q, g_ ds st Q → F__law_right_v56 g_are_probes g_is_rule g_show_setting g_read_setting g__law_take g__law_setting g__law_text { nx := fun _ st' => Rt st Q .non st', rt := Rt st Q } (startD 8 ds) st) : Cal P w K mg base T "_law_right" s__law_right 7 ["_law_pot_here"] g_ := by
  obtain ⟨f, fd, F, b, m⟩ := D.d__law_right
  obtain ⟨f_are_probes, fd_are_probes, F_are_probes_, b_are_probes, g_are_probes_at, G_are_probes⟩ := C_are_probes
  obtain ⟨f_is_rule, fd_is_rule, F_is_rule_, b_is_rule, g_is_rule_at, G_is_rule⟩ := C_is_rule
  obtain ⟨f_show_setting, fd_show_setting, F_show_setting_, b_show_setting, g_show_setting_at, G_show_setting⟩ := C_show_setting
  obtain ⟨f_read_setting, fd_read_setting, F_read_setting_, b_read_setting, g_read_setting_at, G_read_setting⟩ := C_read_setting
  obtain ⟨f__law_take, fd__law_take, F__law_take_, b__law_take, g__law_take_at, G__law_take⟩ := C__law_take
  obtain ⟨f__law_setting, fd__law_setting, F__law_setting_, b__law_setting, g__law_setting_at, G__law_setting⟩ := C__law_setting
  obtain ⟨f__law_text, fd__law_text, F__law_text_, b__law_text, g__law_text_at, G__law_text⟩ := C__law_text
  exact ⟨f, fd, F, b, m, fnD_mk (k := 6) F sc__law_right ar (fun cdv A outer s H E gd hr => (ds_cons (ds_for (vs := [1]) PassesOwn.never rfl (di_range1 (by rfl) D.z_range (da_cons (de_int) da_nil)) (dg_name (i := 1) sc__law_right.nd rfl (.inl rfl) (by decide)) (ds_cons (ds_par (i := 2) (j := 3) rfl sc__law_right.nd rfl rfl (by decide) rfl rfl (da_cons (de_add (de_int) (de_call G__law_take gd (hr.mono (by omega)) (by rfl) g__law_take_at F__law_take_.kp b__law_take (da_cons (de_var (pv 0)) (da_cons (de_int) da_nil)))) (da_cons (de_add (de_int) (de_call G__law_take gd (hr.mono (by omega)) (by rfl) g__law_take_at F__law_take_.kp b__law_take (da_cons (de_var (pv 0)) (da_cons (de_int) da_nil)))) da_nil)) (by rfl)) (ds_cons (ds_asg (vs := [4, 5]) (de_call G__law_setting gd (hr.mono (by omega)) (by rfl) g__law_setting_at F__law_setting_.kp b__law_setting (da_cons (de_var (pv 0)) (da_cons (de_var (pv 2)) (da_cons (de_var (pv 3)) (da_cons (de_cmp (op_eq2 hr.units) opD_eq (de_call G__law_take gd (hr.mono (by omega)) (by rfl) g__law_take_at F__law_take_.kp b__law_take (da_cons (de_var (pv 0)) (da_cons (de_int) da_nil))) (de_int) (nomark _)) da_nil))))) (dg_tup rfl (dgs_cons (dg_name (i := 4) sc__law_right.nd rfl (.inl rfl) (by decide)) (dgs_cons (dg_name (i := 5) sc__law_right.nd rfl (.inl rfl) (by decide)) dgs_nil)))) (ds_cons (ds_par (i := 6) (j := 7) rfl sc__law_right.nd rfl rfl (by decide) rfl rfl (da_cons (de_callB (call_reprD gd hr.units) callD_repr (by rfl) D.z_repr (by decide +kernel) (da_cons (de_tup (da_cons (de_var (pv 4)) (da_cons (de_var (pv 5)) da_nil))) da_nil)) (da_cons (de_call G__law_text gd (hr.mono (by omega)) (by rfl) g__law_text_at F__law_text_.kp b__law_text (da_cons (de_var (pv 4)) (da_cons (de_var (pv 5)) da_nil))) da_nil)) (by rfl)) (ds_cons (ds_if (PW.pt (dw_or (dt_cmpR (op_ne2 hr.units) opD_ne (de_call G_show_setting gd (hr.mono (by omega)) (by rfl) g_show_setting_at F_show_setting_.kp b_show_setting (da_cons (de_var (pv 4)) (da_cons (de_var (pv 5)) da_nil))) (de_var (pv 7)) (nomark _)) (dw_or1 (dt_cmpR (op_ne2 hr.units) opD_ne (de_callKw (ks := ["rule", "probes"]) [1, 0] G_show_setting gd (hr.mono (by omega)) (by rfl) g_show_setting_at F_show_setting_.kp (dk_cons (de_var (pv 5)) (dk_cons (de_var (pv 4)) dk_nil)) (fun s ws hl => match ws, hl with | [u0, u1], _ => F_show_setting_.bindsK fun _ _ _ _ _ _ => rfl)) (de_var (pv 7)) (nomark _))))) (ds_one (ds_ret (de_bl))) ds_nil) (ds_cons (ds_if (PW.pt (dw_or (dt_cmpR (op_ne2 hr.units) opD_ne (de_callB (call_reprD gd hr.units) callD_repr (by rfl) D.z_repr (by decide +kernel) (da_cons (de_call G_read_setting gd (hr.mono (by omega)) (by rfl) g_read_setting_at F_read_setting_.kp b_read_setting (da_cons (de_var (pv 7)) da_nil)) da_nil)) (de_var (pv 6)) (nomark _)) (dw_or1 (dt_cmpR (op_ne2 hr.units) opD_ne (de_callB (call_reprD gd hr.units) callD_repr (by rfl) D.z_repr (by decide +kernel) (da_cons (de_callKw (ks := ["source"]) [0] G_read_setting gd (hr.mono (by omega)) (by rfl) g_read_setting_at F_read_setting_.kp (dk_cons (de_var (pv 7)) dk_nil) (fun s ws hl => match ws, hl with | [u0], _ => F_read_setting_.bindsK fun _ _ _ _ _ _ => rfl)) da_nil)) (de_var (pv 6)) (nomark _))))) (ds_one (ds_ret (de_bl))) ds_nil) (ds_cons (ds_if (PW.pt (dw_or (dt_not (dt_val (de_call G_are_probes gd (hr.mono (by omega)) (by rfl) g_are_probes_at F_are_probes_.kp b_are_probes (da_cons (de_ix (de_call G_read_setting gd (hr.mono (by omega)) (by rfl) g_read_setting_at F_read_setting_.kp b_read_setting (da_cons (de_var (pv 7)) da_nil)) (de_int) (fun _ _ => rfl)) da_nil)))) (dw_or1 (dt_not (dt_val (de_call G_is_rule gd (hr.mono (by omega)) (by rfl) g_is_rule_at F_is_rule_.kp b_is_rule (da_cons (de_ix (de_call G_read_setting gd (hr.mono (by omega)) (by rfl) g_read_setting_at F_read_setting_.kp b_read_setting (da_cons (de_var (pv 7)) da_nil)) (de_int) (fun _ _ => rfl)) da_nil))))))) (ds_one (ds_ret (de_bl))) ds_nil) (ds_one (ds_if (dt_cmpR (op_ne2 hr.units) opD_ne (de_callB (call_reprD gd hr.units) callD_repr (by rfl) D.z_repr (by decide +kernel) (da_cons (de_tup (da_cons (de_var (pv 4)) (da_cons (de_var (pv 5)) da_nil))) da_nil)) (de_var (pv 6)) (nomark _)) (ds_one (ds_ret (de_bl))) ds_nil))))))))) (ds_one (ds_ret (de_bl))))) sem⟩
theorem ok_law (D : Defs K mg base T) {g__law_pot : DRs} (C__law_pot : Cal P w K mg base T "_law_pot" s__law_pot 1 ["_law_script", "_law_k"] g__law_pot) {g__law_right : DRs} (C__law_right : Cal P w K mg base T "_law_right" s__law_right 7 ["_law_pot_here"] g__law_right) {g_ : DRs} (ar : ∀ ds st Q, g_ ds st Q → ds.length = 1) (sem : ∀ ds st Q, g_ ds st Q → F_law g__law_pot g__law_right { nx := fun _ st' => Rt st Q .non st', rt := Rt st Q } (startD 2 ds) st) : Cal P w K mg base T "law" s_law 8 ["_law_script"] g_ := by
  obtain ⟨f, fd, F, b, m⟩ := D.d_law
  obtain ⟨f__law_pot, fd__law_pot, F__law_pot_, b__law_pot, g__law_pot_at, G__law_pot⟩ := C__law_pot
  obtain ⟨f__law_right, fd__law_right, F__law_right_, b__law_right, g__law_right_at, G__law_right⟩ := C__law_right
  exact ⟨f, fd, F, b, m, fnD_mk (k := 7) F sc_law ar (fun cdv A outer s H E gd hr => (ds_one (ds_ret (de_callB (cr_all rfl) (callD_all _) (by rfl) D.z_all (by decide +kernel) (da_cons (de_lcG (own := [("_law_k", 1)]) finT_ok rfl sc_law.nd (di_range1 (by rfl) D.z_range (da_cons (de_callB (call_max2 rfl) callD_2I (by rfl) D.z_max (by decide +kernel) (da_cons (de_int) (da_cons (de_callB (call_min2 rfl) callD_2I (by rfl) D.z_min (by decide +kernel) (da_cons (de_int) (da_cons (de_callB call_len_seq callD_len (by rfl) D.z_len PySem.boot_len (da_cons (de_var (pv 0)) da_nil)) da_nil))) da_nil))) da_nil)) (blkOk_by (own := [("_law_k", 1)]) (N := n_law) (sc := defScope s_law) (by decide +kernel)) (fun _ _ _ _ _ => (dg_name (i := 1) sc_law.nd rfl (.inl rfl) (by decide))) (fun _ _ _ _ _ => dts_nil) (fun _ _ _ _ _ => (de_call G__law_right gd (hr.mono (by omega)) (by rfl) g__law_right_at F__law_right_.kp b__law_right (da_cons (de_call G__law_pot gd (hr.mono (by omega)) (by rfl) g__law_pot_at F__law_pot_.kp b__law_pot (da_cons (de_var (pv 0)) (da_cons (de_var (pv 1)) da_nil))) da_nil)))) da_nil))))) sem⟩
end
section
variable {P : Program} {w : World} {K : Frag} {mg : Str → Option Value} {base : Heap} {T : List (Addr × Str)}
set_option maxHeartbeats 0 in
theorem law_ok (D : Defs K mg base T) : Cal P w K mg base T "law" s_law 8 ["_law_script"] g_law := by
  have C__law_pot := ok__law_pot (P := P) (w := w) D ar_pot sem_pot
  have C_is_integer_within := ok_is_integer_within (P := P) (w := w) D ar_within sem_within
  have C_is_probe_order := ok_is_probe_order (P := P) (w := w) D C_is_integer_within ar_isPr sem_isPr
  have C_is_sized := ok_is_sized (P := P) (w := w) D ar_sized sem_sized
  have C_are_probes := ok_are_probes (P := P) (w := w) D C_is_probe_order C_is_sized ar_arePr sem_arePr
  have C_are_integers_within := ok_are_integers_within (P := P) (w := w) D C_is_integer_within ar_allIn sem_allIn
  have C_is_ascending := ok_is_ascending (P := P) (w := w) D C_are_integers_within ar_ascRow sem_ascRow
  have C_is_decided := ok_is_decided (P := P) (w := w) D ar_decided sem_decided
  have C_is_table := ok_is_table (P := P) (w := w) D C_is_ascending C_is_decided ar_tableOk sem_tableOk
  have C_is_rule := ok_is_rule (P := P) (w := w) D C_is_sized C_is_table ar_ruleOk sem_ruleOk
  have C_show_keys := ok_show_keys (P := P) (w := w) D ar_showK sem_showK
  have C_show_setting := ok_show_setting (P := P) (w := w) D C_show_keys ar_showS sem_showS
  have C_require_string := ok_require_string (P := P) (w := w) D ar_reqStr sem_reqStr
  have C_number_of := ok_number_of (P := P) (w := w) D ar_num sem_num
  have C_sizes_in := ok_sizes_in (P := P) (w := w) D C_number_of ar_sizes sem_sizes
  have C_words_behind := ok_words_behind (P := P) (w := w) D ar_words sem_words
  have C_probe_order_at := ok_probe_order_at (P := P) (w := w) D C_is_probe_order C_number_of C_words_behind ar_prAt sem_prAt
  have C_beaten_in := ok_beaten_in (P := P) (w := w) D C_number_of ar_beat sem_beat
  have C_table_at := ok_table_at (P := P) (w := w) D C_is_table C_words_behind C_beaten_in ar_tbAt sem_tbAt
  have C_read_setting := ok_read_setting (P := P) (w := w) D C_require_string C_sizes_in C_probe_order_at C_table_at ar_read sem_read
  have C__law_take := ok__law_take (P := P) (w := w) D ar_take sem_take
  have C__law_mixed := ok__law_mixed (P := P) (w := w) D C__law_take ar_mixed sem_mixed
  have C__law_line := ok__law_line (P := P) (w := w) D ar_line sem_line
  have C__law_probe := ok__law_probe (P := P) (w := w) D C__law_take C__law_mixed C__law_line ar_probe sem_probe
  have C__law_ordered_table := ok__law_ordered_table (P := P) (w := w) D ar_tabOfL sem_tabOfL
  have C__law_pick := ok__law_pick (P := P) (w := w) D C__law_take ar_pick sem_pick
  have C__law_any_table := ok__law_any_table (P := P) (w := w) D C__law_pick ar_anyT sem_anyT
  have C__law_turned := ok__law_turned (P := P) (w := w) D C__law_mixed ar_turnT sem_turnT
  have C__law_table := ok__law_table (P := P) (w := w) D C__law_take C__law_mixed C__law_ordered_table C__law_any_table C__law_turned ar_table69 sem_table69
  have C__law_setting := ok__law_setting (P := P) (w := w) D C__law_mixed C__law_probe C__law_ordered_table C__law_table ar_set45 sem_set45
  have C__law_text := ok__law_text (P := P) (w := w) D ar_showS sem_text
  have C__law_right := ok__law_right (P := P) (w := w) D C_are_probes C_is_rule C_show_setting C_read_setting C__law_take C__law_setting C__law_text ar_right sem_right45b
  have C_law := ok_law (P := P) (w := w) D C__law_pot C__law_right ar_law sem_law
  exact C_law
end
set_option maxHeartbeats 0 in
theorem all_mk {l : PySem.W.OpenLaw} {w : World} {K : PySem.W.Frag} {h : Heap} {mg : Str → Option Value} {fa : Addr} (X : K.In h) (G : h.Ns mainGlobals mg) (hfa : mg "law" = some (.ref fa))
    {f1 f2 f3 f4 f5 f6 f7 f8 f9 f10 f11 f12 f13 f14 f15 f16 f17 f18 f19 f20 f21 f22 f23 f24 f25 f26 f27 f28 f29 f30 f31 f32 f33 : Addr} {od1 an1 od2 an2 od3 an3 od4 an4 od5 an5 od6 an6 od7 an7 od8 an8 od9 an9 od10 an10 od11 an11 od12 an12 od13 an13 od14 an14 od15 an15 od16 an16 od17 an17 od18 an18 od19 an19 od20 an20 od21 an21 od22 an22 od23 an23 od24 an24 od25 an25 od26 an26 od27 an27 od28 an28 od29 an29 od30 an30 od31 an31 od32 an32 od33 an33 : Option Addr} {sl1 sl2 sl3 sl4 sl5 sl6 sl7 sl8 sl9 sl10 sl11 sl12 sl13 sl14 sl15 sl16 sl17 sl18 sl19 sl20 sl21 sl22 sl23 sl24 sl25 sl26 sl27 sl28 sl29 sl30 sl31 sl32 sl33 : Array (Option Value)} {oc1 kV1 dc1 pm1 cd1 ct1 oc2 kV2 dc2 pm2 cd2 ct2 oc3 kV3 dc3 pm3 cd3 ct3 oc4 kV4 dc4 pm4 cd4 ct4 oc5 kV5 dc5 pm5 cd5 ct5 oc6 kV6 dc6 pm6 cd6 ct6 oc7 kV7 dc7 pm7 cd7 ct7 oc8 kV8 dc8 pm8 cd8 ct8 oc9 kV9 dc9 pm9 cd9 ct9 oc10 kV10 dc10 pm10 cd10 ct10 oc11 kV11 dc11 pm11 cd11 ct11 oc12 kV12 dc12 pm12 cd12 ct12 oc13 kV13 dc13 pm13 cd13 ct13 oc14 kV14 dc14 pm14 cd14 ct14 oc15 kV15 dc15 pm15 cd15 ct15 oc16 kV16 dc16 pm16 cd16 ct16 oc17 kV17 dc17 pm17 cd17 ct17 oc18 kV18 dc18 pm18 cd18 ct18 oc19 kV19 dc19 pm19 cd19 ct19 oc20 kV20 dc20 pm20 cd20 ct20 oc21 kV21 dc21 pm21 cd21 ct21 oc22 kV22 dc22 pm22 cd22 ct22 oc23 kV23 dc23 pm23 cd23 ct23 oc24 kV24 dc24 pm24 cd24 ct24 oc25 kV25 dc25 pm25 cd25 ct25 oc26 kV26 dc26 pm26 cd26 ct26 oc27 kV27 dc27 pm27 cd27 ct27 oc28 kV28 dc28 pm28 cd28 ct28 oc29 kV29 dc29 pm29 cd29 ct29 oc30 kV30 dc30 pm30 cd30 ct30 oc31 kV31 dc31 pm31 cd31 ct31 oc32 kV32 dc32 pm32 cd32 ct32 oc33 kV33 dc33 pm33 cd33 ct33 : Value}
    (a1 : PySem.W.nsIn K mainGlobals "is_integer_within" = some (some (.ref f1))) (l1 : K.lookup f1 = some ⟨oc1, od1, .func (PySem.W.fnOf "is_integer_within" "is_integer_within" (defArgs s_is_integer_within) (defBody s_is_integer_within) (defScope s_is_integer_within) .none kV1 dc1 pm1 an1 cd1 ct1), sl1⟩) (c1 : PySem.W.codeIn K cd1 "is_integer_within" = true) (k1 : PySem.W.keepIn K (.ref f1) = true)
    (a2 : PySem.W.nsIn K mainGlobals "are_integers_within" = some (some (.ref f2))) (l2 : K.lookup f2 = some ⟨oc2, od2, .func (PySem.W.fnOf "are_integers_within" "are_integers_within" (defArgs s_are_integers_within) (defBody s_are_integers_within) (defScope s_are_integers_within) .none kV2 dc2 pm2 an2 cd2 ct2), sl2⟩) (c2 : PySem.W.codeIn K cd2 "are_integers_within" = true) (k2 : PySem.W.keepIn K (.ref f2) = true)
    (a3 : PySem.W.nsIn K mainGlobals "is_probe_order" = some (some (.ref f3))) (l3 : K.lookup f3 = some ⟨oc3, od3, .func (PySem.W.fnOf "is_probe_order" "is_probe_order" (defArgs s_is_probe_order) (defBody s_is_probe_order) (defScope s_is_probe_order) .none kV3 dc3 pm3 an3 cd3 ct3), sl3⟩) (c3 : PySem.W.codeIn K cd3 "is_probe_order" = true) (k3 : PySem.W.keepIn K (.ref f3) = true)
    (a4 : PySem.W.nsIn K mainGlobals "are_probes" = some (some (.ref f4))) (l4 : K.lookup f4 = some ⟨oc4, od4, .func (PySem.W.fnOf "are_probes" "are_probes" (defArgs s_are_probes) (defBody s_are_probes) (defScope s_are_probes) .none kV4 dc4 pm4 an4 cd4 ct4), sl4⟩) (c4 : PySem.W.codeIn K cd4 "are_probes" = true) (k4 : PySem.W.keepIn K (.ref f4) = true)
    (a5 : PySem.W.nsIn K mainGlobals "is_rule" = some (some (.ref f5))) (l5 : K.lookup f5 = some ⟨oc5, od5, .func (PySem.W.fnOf "is_rule" "is_rule" (defArgs s_is_rule) (defBody s_is_rule) (defScope s_is_rule) .none kV5 dc5 pm5 an5 cd5 ct5), sl5⟩) (c5 : PySem.W.codeIn K cd5 "is_rule" = true) (k5 : PySem.W.keepIn K (.ref f5) = true)
    (a6 : PySem.W.nsIn K mainGlobals "is_sized" = some (some (.ref f6))) (l6 : K.lookup f6 = some ⟨oc6, od6, .func (PySem.W.fnOf "is_sized" "is_sized" (defArgs s_is_sized) (defBody s_is_sized) (defScope s_is_sized) .none kV6 dc6 pm6 an6 cd6 ct6), sl6⟩) (c6 : PySem.W.codeIn K cd6 "is_sized" = true) (k6 : PySem.W.keepIn K (.ref f6) = true)
    (a7 : PySem.W.nsIn K mainGlobals "is_table" = some (some (.ref f7))) (l7 : K.lookup f7 = some ⟨oc7, od7, .func (PySem.W.fnOf "is_table" "is_table" (defArgs s_is_table) (defBody s_is_table) (defScope s_is_table) .none kV7 dc7 pm7 an7 cd7 ct7), sl7⟩) (c7 : PySem.W.codeIn K cd7 "is_table" = true) (k7 : PySem.W.keepIn K (.ref f7) = true)
    (a8 : PySem.W.nsIn K mainGlobals "is_ascending" = some (some (.ref f8))) (l8 : K.lookup f8 = some ⟨oc8, od8, .func (PySem.W.fnOf "is_ascending" "is_ascending" (defArgs s_is_ascending) (defBody s_is_ascending) (defScope s_is_ascending) .none kV8 dc8 pm8 an8 cd8 ct8), sl8⟩) (c8 : PySem.W.codeIn K cd8 "is_ascending" = true) (k8 : PySem.W.keepIn K (.ref f8) = true)
    (a9 : PySem.W.nsIn K mainGlobals "is_decided" = some (some (.ref f9))) (l9 : K.lookup f9 = some ⟨oc9, od9, .func (PySem.W.fnOf "is_decided" "is_decided" (defArgs s_is_decided) (defBody s_is_decided) (defScope s_is_decided) .none kV9 dc9 pm9 an9 cd9 ct9), sl9⟩) (c9 : PySem.W.codeIn K cd9 "is_decided" = true) (k9 : PySem.W.keepIn K (.ref f9) = true)
    (a10 : PySem.W.nsIn K mainGlobals "show_setting" = some (some (.ref f10))) (l10 : K.lookup f10 = some ⟨oc10, od10, .func (PySem.W.fnOf "show_setting" "show_setting" (defArgs s_show_setting) (defBody s_show_setting) (defScope s_show_setting) .none kV10 dc10 pm10 an10 cd10 ct10), sl10⟩) (c10 : PySem.W.codeIn K cd10 "show_setting" = true) (k10 : PySem.W.keepIn K (.ref f10) = true)
    (a11 : PySem.W.nsIn K mainGlobals "show_keys" = some (some (.ref f11))) (l11 : K.lookup f11 = some ⟨oc11, od11, .func (PySem.W.fnOf "show_keys" "show_keys" (defArgs s_show_keys) (defBody s_show_keys) (defScope s_show_keys) .none kV11 dc11 pm11 an11 cd11 ct11), sl11⟩) (c11 : PySem.W.codeIn K cd11 "show_keys" = true) (k11 : PySem.W.keepIn K (.ref f11) = true)
    (a12 : PySem.W.nsIn K mainGlobals "read_setting" = some (some (.ref f12))) (l12 : K.lookup f12 = some ⟨oc12, od12, .func (PySem.W.fnOf "read_setting" "read_setting" (defArgs s_read_setting) (defBody s_read_setting) (defScope s_read_setting) .none kV12 dc12 pm12 an12 cd12 ct12), sl12⟩) (c12 : PySem.W.codeIn K cd12 "read_setting" = true) (k12 : PySem.W.keepIn K (.ref f12) = true)
    (a13 : PySem.W.nsIn K mainGlobals "require_string" = some (some (.ref f13))) (l13 : K.lookup f13 = some ⟨oc13, od13, .func (PySem.W.fnOf "require_string" "require_string" (defArgs s_require_string) (defBody s_require_string) (defScope s_require_string) .none kV13 dc13 pm13 an13 cd13 ct13), sl13⟩) (c13 : PySem.W.codeIn K cd13 "require_string" = true) (k13 : PySem.W.keepIn K (.ref f13) = true)
    (a14 : PySem.W.nsIn K mainGlobals "sizes_in" = some (some (.ref f14))) (l14 : K.lookup f14 = some ⟨oc14, od14, .func (PySem.W.fnOf "sizes_in" "sizes_in" (defArgs s_sizes_in) (defBody s_sizes_in) (defScope s_sizes_in) .none kV14 dc14 pm14 an14 cd14 ct14), sl14⟩) (c14 : PySem.W.codeIn K cd14 "sizes_in" = true) (k14 : PySem.W.keepIn K (.ref f14) = true)
    (a15 : PySem.W.nsIn K mainGlobals "number_of" = some (some (.ref f15))) (l15 : K.lookup f15 = some ⟨oc15, od15, .func (PySem.W.fnOf "number_of" "number_of" (defArgs s_number_of) (defBody s_number_of) (defScope s_number_of) .none kV15 dc15 pm15 an15 cd15 ct15), sl15⟩) (c15 : PySem.W.codeIn K cd15 "number_of" = true) (k15 : PySem.W.keepIn K (.ref f15) = true)
    (a16 : PySem.W.nsIn K mainGlobals "probe_order_at" = some (some (.ref f16))) (l16 : K.lookup f16 = some ⟨oc16, od16, .func (PySem.W.fnOf "probe_order_at" "probe_order_at" (defArgs s_probe_order_at) (defBody s_probe_order_at) (defScope s_probe_order_at) .none kV16 dc16 pm16 an16 cd16 ct16), sl16⟩) (c16 : PySem.W.codeIn K cd16 "probe_order_at" = true) (k16 : PySem.W.keepIn K (.ref f16) = true)
    (a17 : PySem.W.nsIn K mainGlobals "table_at" = some (some (.ref f17))) (l17 : K.lookup f17 = some ⟨oc17, od17, .func (PySem.W.fnOf "table_at" "table_at" (defArgs s_table_at) (defBody s_table_at) (defScope s_table_at) .none kV17 dc17 pm17 an17 cd17 ct17), sl17⟩) (c17 : PySem.W.codeIn K cd17 "table_at" = true) (k17 : PySem.W.keepIn K (.ref f17) = true)
    (a18 : PySem.W.nsIn K mainGlobals "words_behind" = some (some (.ref f18))) (l18 : K.lookup f18 = some ⟨oc18, od18, .func (PySem.W.fnOf "words_behind" "words_behind" (defArgs s_words_behind) (defBody s_words_behind) (defScope s_words_behind) .none kV18 dc18 pm18 an18 cd18 ct18), sl18⟩) (c18 : PySem.W.codeIn K cd18 "words_behind" = true) (k18 : PySem.W.keepIn K (.ref f18) = true)
    (a19 : PySem.W.nsIn K mainGlobals "beaten_in" = some (some (.ref f19))) (l19 : K.lookup f19 = some ⟨oc19, od19, .func (PySem.W.fnOf "beaten_in" "beaten_in" (defArgs s_beaten_in) (defBody s_beaten_in) (defScope s_beaten_in) .none kV19 dc19 pm19 an19 cd19 ct19), sl19⟩) (c19 : PySem.W.codeIn K cd19 "beaten_in" = true) (k19 : PySem.W.keepIn K (.ref f19) = true)
    (a20 : PySem.W.nsIn K mainGlobals "_law_pot" = some (some (.ref f20))) (l20 : K.lookup f20 = some ⟨oc20, od20, .func (PySem.W.fnOf "_law_pot" "_law_pot" (defArgs s__law_pot) (defBody s__law_pot) (defScope s__law_pot) .none kV20 dc20 pm20 an20 cd20 ct20), sl20⟩) (c20 : PySem.W.codeIn K cd20 "_law_pot" = true) (k20 : PySem.W.keepIn K (.ref f20) = true)
    (a21 : PySem.W.nsIn K mainGlobals "_law_take" = some (some (.ref f21))) (l21 : K.lookup f21 = some ⟨oc21, od21, .func (PySem.W.fnOf "_law_take" "_law_take" (defArgs s__law_take) (defBody s__law_take) (defScope s__law_take) .none kV21 dc21 pm21 an21 cd21 ct21), sl21⟩) (c21 : PySem.W.codeIn K cd21 "_law_take" = true) (k21 : PySem.W.keepIn K (.ref f21) = true)
    (a22 : PySem.W.nsIn K mainGlobals "_law_pick" = some (some (.ref f22))) (l22 : K.lookup f22 = some ⟨oc22, od22, .func (PySem.W.fnOf "_law_pick" "_law_pick" (defArgs s__law_pick) (defBody s__law_pick) (defScope s__law_pick) .none kV22 dc22 pm22 an22 cd22 ct22), sl22⟩) (c22 : PySem.W.codeIn K cd22 "_law_pick" = true) (k22 : PySem.W.keepIn K (.ref f22) = true)
    (a23 : PySem.W.nsIn K mainGlobals "_law_mixed" = some (some (.ref f23))) (l23 : K.lookup f23 = some ⟨oc23, od23, .func (PySem.W.fnOf "_law_mixed" "_law_mixed" (defArgs s__law_mixed) (defBody s__law_mixed) (defScope s__law_mixed) .none kV23 dc23 pm23 an23 cd23 ct23), sl23⟩) (c23 : PySem.W.codeIn K cd23 "_law_mixed" = true) (k23 : PySem.W.keepIn K (.ref f23) = true)
    (a24 : PySem.W.nsIn K mainGlobals "_law_line" = some (some (.ref f24))) (l24 : K.lookup f24 = some ⟨oc24, od24, .func (PySem.W.fnOf "_law_line" "_law_line" (defArgs s__law_line) (defBody s__law_line) (defScope s__law_line) .none kV24 dc24 pm24 an24 cd24 ct24), sl24⟩) (c24 : PySem.W.codeIn K cd24 "_law_line" = true) (k24 : PySem.W.keepIn K (.ref f24) = true)
    (a25 : PySem.W.nsIn K mainGlobals "_law_probe" = some (some (.ref f25))) (l25 : K.lookup f25 = some ⟨oc25, od25, .func (PySem.W.fnOf "_law_probe" "_law_probe" (defArgs s__law_probe) (defBody s__law_probe) (defScope s__law_probe) .none kV25 dc25 pm25 an25 cd25 ct25), sl25⟩) (c25 : PySem.W.codeIn K cd25 "_law_probe" = true) (k25 : PySem.W.keepIn K (.ref f25) = true)
    (a26 : PySem.W.nsIn K mainGlobals "_law_ordered_table" = some (some (.ref f26))) (l26 : K.lookup f26 = some ⟨oc26, od26, .func (PySem.W.fnOf "_law_ordered_table" "_law_ordered_table" (defArgs s__law_ordered_table) (defBody s__law_ordered_table) (defScope s__law_ordered_table) .none kV26 dc26 pm26 an26 cd26 ct26), sl26⟩) (c26 : PySem.W.codeIn K cd26 "_law_ordered_table" = true) (k26 : PySem.W.keepIn K (.ref f26) = true)
    (a27 : PySem.W.nsIn K mainGlobals "_law_any_table" = some (some (.ref f27))) (l27 : K.lookup f27 = some ⟨oc27, od27, .func (PySem.W.fnOf "_law_any_table" "_law_any_table" (defArgs s__law_any_table) (defBody s__law_any_table) (defScope s__law_any_table) .none kV27 dc27 pm27 an27 cd27 ct27), sl27⟩) (c27 : PySem.W.codeIn K cd27 "_law_any_table" = true) (k27 : PySem.W.keepIn K (.ref f27) = true)
    (a28 : PySem.W.nsIn K mainGlobals "_law_turned" = some (some (.ref f28))) (l28 : K.lookup f28 = some ⟨oc28, od28, .func (PySem.W.fnOf "_law_turned" "_law_turned" (defArgs s__law_turned) (defBody s__law_turned) (defScope s__law_turned) .none kV28 dc28 pm28 an28 cd28 ct28), sl28⟩) (c28 : PySem.W.codeIn K cd28 "_law_turned" = true) (k28 : PySem.W.keepIn K (.ref f28) = true)
    (a29 : PySem.W.nsIn K mainGlobals "_law_table" = some (some (.ref f29))) (l29 : K.lookup f29 = some ⟨oc29, od29, .func (PySem.W.fnOf "_law_table" "_law_table" (defArgs s__law_table) (defBody s__law_table) (defScope s__law_table) .none kV29 dc29 pm29 an29 cd29 ct29), sl29⟩) (c29 : PySem.W.codeIn K cd29 "_law_table" = true) (k29 : PySem.W.keepIn K (.ref f29) = true)
    (a30 : PySem.W.nsIn K mainGlobals "_law_setting" = some (some (.ref f30))) (l30 : K.lookup f30 = some ⟨oc30, od30, .func (PySem.W.fnOf "_law_setting" "_law_setting" (defArgs s__law_setting) (defBody s__law_setting) (defScope s__law_setting) .none kV30 dc30 pm30 an30 cd30 ct30), sl30⟩) (c30 : PySem.W.codeIn K cd30 "_law_setting" = true) (k30 : PySem.W.keepIn K (.ref f30) = true)
    (a31 : PySem.W.nsIn K mainGlobals "_law_text" = some (some (.ref f31))) (l31 : K.lookup f31 = some ⟨oc31, od31, .func (PySem.W.fnOf "_law_text" "_law_text" (defArgs s__law_text) (defBody s__law_text) (defScope s__law_text) .none kV31 dc31 pm31 an31 cd31 ct31), sl31⟩) (c31 : PySem.W.codeIn K cd31 "_law_text" = true) (k31 : PySem.W.keepIn K (.ref f31) = true)
    (a32 : PySem.W.nsIn K mainGlobals "_law_right" = some (some (.ref f32))) (l32 : K.lookup f32 = some ⟨oc32, od32, .func (PySem.W.fnOf "_law_right" "_law_right" (defArgs s__law_right) (defBody s__law_right) (defScope s__law_right) .none kV32 dc32 pm32 an32 cd32 ct32), sl32⟩) (c32 : PySem.W.codeIn K cd32 "_law_right" = true) (k32 : PySem.W.keepIn K (.ref f32) = true)
    (a33 : PySem.W.nsIn K mainGlobals "law" = some (some (.ref f33))) (l33 : K.lookup f33 = some ⟨oc33, od33, .func (PySem.W.fnOf "law" "law" (defArgs s_law) (defBody s_law) (defScope s_law) .none kV33 dc33 pm33 an33 cd33 ct33), sl33⟩) (c33 : PySem.W.codeIn K cd33 "law" = true) (k33 : PySem.W.keepIn K (.ref f33) = true)
    {tm_MOST : Tok} (y_MOST : PySem.W.nsIn K mainGlobals "MOST" = some (some (.int (16) tm_MOST)))
    {tm_NOTHING : Tok} (y_NOTHING : PySem.W.nsIn K mainGlobals "NOTHING" = some (some (.str "-" tm_NOTHING)))
    (z_abs : PySem.W.nsIn K mainGlobals "abs" = some none)
    (z_all : PySem.W.nsIn K mainGlobals "all" = some none)
    (z_bool : PySem.W.nsIn K mainGlobals "bool" = some none)
    (z_enumerate : PySem.W.nsIn K mainGlobals "enumerate" = some none)
    (z_int : PySem.W.nsIn K mainGlobals "int" = some none)
    (z_isinstance : PySem.W.nsIn K mainGlobals "isinstance" = some none)
    (z_len : PySem.W.nsIn K mainGlobals "len" = some none)
    (z_list : PySem.W.nsIn K mainGlobals "list" = some none)
    (z_max : PySem.W.nsIn K mainGlobals "max" = some none)
    (z_min : PySem.W.nsIn K mainGlobals "min" = some none)
    (z_range : PySem.W.nsIn K mainGlobals "range" = some none)
    (z_repr : PySem.W.nsIn K mainGlobals "repr" = some none)
    (z_set : PySem.W.nsIn K mainGlobals "set" = some none)
    (z_sorted : PySem.W.nsIn K mainGlobals "sorted" = some none)
    (z_str : PySem.W.nsIn K mainGlobals "str" = some none)
    (z_tuple : PySem.W.nsIn K mainGlobals "tuple" = some none)
    (z_zip : PySem.W.nsIn K mainGlobals "zip" = some none)
    :
    ∃ fd : FuncData, (∀ (s : Shared) (v : Value), BindsTo s fd ⟨[v], []⟩ [("_law_script", v)]) ∧
      ∀ base : Heap, K.In base → base.Ns mainGlobals mg → FnG l.prog w K mg base 8 fa fd ["_law_script"] (spD [] K 1 g_law) := by
  have e := hfa.symm.trans (PySem.W.mg_of X G a33)
  cases e
  have F1 := fun_mk (st := s_is_integer_within) l1 c1 k1
  have b1 := F1.binds (ps := ["value", "low", "high"]) fun _ _ _ _ _ _ us hl => match us, hl with | [_, _, _], _ => rfl
  have F2 := fun_mk (st := s_are_integers_within) l2 c2 k2
  have b2 := F2.binds (ps := ["value", "low", "high"]) fun _ _ _ _ _ _ us hl => match us, hl with | [_, _, _], _ => rfl
  have F3 := fun_mk (st := s_is_probe_order) l3 c3 k3
  have b3 := F3.binds (ps := ["count", "value"]) fun _ _ _ _ _ _ us hl => match us, hl with | [_, _], _ => rfl
  have F4 := fun_mk (st := s_are_probes) l4 c4 k4
  have b4 := F4.binds (ps := ["value"]) fun _ _ _ _ _ _ us hl => match us, hl with | [_], _ => rfl
  have F5 := fun_mk (st := s_is_rule) l5 c5 k5
  have b5 := F5.binds (ps := ["value"]) fun _ _ _ _ _ _ us hl => match us, hl with | [_], _ => rfl
  have F6 := fun_mk (st := s_is_sized) l6 c6 k6
  have b6 := F6.binds (ps := ["value"]) fun _ _ _ _ _ _ us hl => match us, hl with | [_], _ => rfl
  have F7 := fun_mk (st := s_is_table) l7 c7 k7
  have b7 := F7.binds (ps := ["keys", "value"]) fun _ _ _ _ _ _ us hl => match us, hl with | [_, _], _ => rfl
  have F8 := fun_mk (st := s_is_ascending) l8 c8 k8
  have b8 := F8.binds (ps := ["keys", "value"]) fun _ _ _ _ _ _ us hl => match us, hl with | [_, _], _ => rfl
  have F9 := fun_mk (st := s_is_decided) l9 c9 k9
  have b9 := F9.binds (ps := ["table", "a", "b"]) fun _ _ _ _ _ _ us hl => match us, hl with | [_, _, _], _ => rfl
  have F10 := fun_mk (st := s_show_setting) l10 c10 k10
  have b10 := F10.binds (ps := ["probes", "rule"]) fun _ _ _ _ _ _ us hl => match us, hl with | [_, _], _ => rfl
  have F11 := fun_mk (st := s_show_keys) l11 c11 k11
  have b11 := F11.binds (ps := ["keys", "between"]) fun _ _ _ _ _ _ us hl => match us, hl with | [_, _], _ => rfl
  have F12 := fun_mk (st := s_read_setting) l12 c12 k12
  have b12 := F12.binds (ps := ["source"]) fun _ _ _ _ _ _ us hl => match us, hl with | [_], _ => rfl
  have F13 := fun_mk (st := s_require_string) l13 c13 k13
  have b13 := F13.binds (ps := ["source"]) fun _ _ _ _ _ _ us hl => match us, hl with | [_], _ => rfl
  have F14 := fun_mk (st := s_sizes_in) l14 c14 k14
  have b14 := F14.binds (ps := ["line"]) fun _ _ _ _ _ _ us hl => match us, hl with | [_], _ => rfl
  have F15 := fun_mk (st := s_number_of) l15 c15 k15
  have b15 := F15.binds (ps := ["word", "low", "high"]) fun _ _ _ _ _ _ us hl => match us, hl with | [_, _, _], _ => rfl
  have F16 := fun_mk (st := s_probe_order_at) l16 c16 k16
  have b16 := F16.binds (ps := ["lines", "at", "slots"]) fun _ _ _ _ _ _ us hl => match us, hl with | [_, _, _], _ => rfl
  have F17 := fun_mk (st := s_table_at) l17 c17 k17
  have b17 := F17.binds (ps := ["lines", "at", "keys"]) fun _ _ _ _ _ _ us hl => match us, hl with | [_, _, _], _ => rfl
  have F18 := fun_mk (st := s_words_behind) l18 c18 k18
  have b18 := F18.binds (ps := ["lines", "at", "first"]) fun _ _ _ _ _ _ us hl => match us, hl with | [_, _, _], _ => rfl
  have F19 := fun_mk (st := s_beaten_in) l19 c19 k19
  have b19 := F19.binds (ps := ["word", "keys"]) fun _ _ _ _ _ _ us hl => match us, hl with | [_, _], _ => rfl
  have F20 := fun_mk (st := s__law_pot) l20 c20 k20
  have b20 := F20.binds (ps := ["_law_script", "_law_k"]) fun _ _ _ _ _ _ us hl => match us, hl with | [_, _], _ => rfl
  have F21 := fun_mk (st := s__law_take) l21 c21 k21
  have b21 := F21.binds (ps := ["_law_pot_here", "_law_size"]) fun _ _ _ _ _ _ us hl => match us, hl with | [_, _], _ => rfl
  have F22 := fun_mk (st := s__law_pick) l22 c22 k22
  have b22 := F22.binds (ps := ["_law_pot_here", "_law_some"]) fun _ _ _ _ _ _ us hl => match us, hl with | [_, _], _ => rfl
  have F23 := fun_mk (st := s__law_mixed) l23 c23 k23
  have b23 := F23.binds (ps := ["_law_pot_here", "_law_some"]) fun _ _ _ _ _ _ us hl => match us, hl with | [_, _], _ => rfl
  have F24 := fun_mk (st := s__law_line) l24 c24 k24
  have b24 := F24.binds (ps := ["_law_size", "_law_begin"]) fun _ _ _ _ _ _ us hl => match us, hl with | [_, _], _ => rfl
  have F25 := fun_mk (st := s__law_probe) l25 c25 k25
  have b25 := F25.binds (ps := ["_law_pot_here", "_law_size"]) fun _ _ _ _ _ _ us hl => match us, hl with | [_, _], _ => rfl
  have F26 := fun_mk (st := s__law_ordered_table) l26 c26 k26
  have b26 := F26.binds (ps := ["_law_order"]) fun _ _ _ _ _ _ us hl => match us, hl with | [_], _ => rfl
  have F27 := fun_mk (st := s__law_any_table) l27 c27 k27
  have b27 := F27.binds (ps := ["_law_pot_here", "_law_size"]) fun _ _ _ _ _ _ us hl => match us, hl with | [_, _], _ => rfl
  have F28 := fun_mk (st := s__law_turned) l28 c28 k28
  have b28 := F28.binds (ps := ["_law_pot_here", "_law_table_here"]) fun _ _ _ _ _ _ us hl => match us, hl with | [_, _], _ => rfl
  have F29 := fun_mk (st := s__law_table) l29 c29 k29
  have b29 := F29.binds (ps := ["_law_pot_here", "_law_size"]) fun _ _ _ _ _ _ us hl => match us, hl with | [_, _], _ => rfl
  have F30 := fun_mk (st := s__law_setting) l30 c30 k30
  have b30 := F30.binds (ps := ["_law_pot_here", "_law_many", "_law_spots", "_law_is_even"]) fun _ _ _ _ _ _ us hl => match us, hl with | [_, _, _, _], _ => rfl
  have F31 := fun_mk (st := s__law_text) l31 c31 k31
  have b31 := F31.binds (ps := ["_law_probe_rows", "_law_tables"]) fun _ _ _ _ _ _ us hl => match us, hl with | [_, _], _ => rfl
  have F32 := fun_mk (st := s__law_right) l32 c32 k32
  have b32 := F32.binds (ps := ["_law_pot_here"]) fun _ _ _ _ _ _ us hl => match us, hl with | [_], _ => rfl
  have F33 := fun_mk (st := s_law) l33 c33 k33
  have b33 := F33.binds (ps := ["_law_script"]) fun _ _ _ _ _ _ us hl => match us, hl with | [_], _ => rfl
  refine ⟨_, fun s v => F33.bindsK fun _ _ _ _ _ _ => rfl, fun base _ _ => ?_⟩
  have D : Defs K mg base [] := ⟨⟨_, _, F1, b1, PySem.W.mg_of X G a1⟩,
    ⟨_, _, F2, b2, PySem.W.mg_of X G a2⟩,
    ⟨_, _, F3, b3, PySem.W.mg_of X G a3⟩,
    ⟨_, _, F4, b4, PySem.W.mg_of X G a4⟩,
    ⟨_, _, F5, b5, PySem.W.mg_of X G a5⟩,
    ⟨_, _, F6, b6, PySem.W.mg_of X G a6⟩,
    ⟨_, _, F7, b7, PySem.W.mg_of X G a7⟩,
    ⟨_, _, F8, b8, PySem.W.mg_of X G a8⟩,
    ⟨_, _, F9, b9, PySem.W.mg_of X G a9⟩,
    ⟨_, _, F10, b10, PySem.W.mg_of X G a10⟩,
    ⟨_, _, F11, b11, PySem.W.mg_of X G a11⟩,
    ⟨_, _, F12, b12, PySem.W.mg_of X G a12⟩,
    ⟨_, _, F13, b13, PySem.W.mg_of X G a13⟩,
    ⟨_, _, F14, b14, PySem.W.mg_of X G a14⟩,
    ⟨_, _, F15, b15, PySem.W.mg_of X G a15⟩,
    ⟨_, _, F16, b16, PySem.W.mg_of X G a16⟩,
    ⟨_, _, F17, b17, PySem.W.mg_of X G a17⟩,
    ⟨_, _, F18, b18, PySem.W.mg_of X G a18⟩,
    ⟨_, _, F19, b19, PySem.W.mg_of X G a19⟩,
    ⟨_, _, F20, b20, PySem.W.mg_of X G a20⟩,
    ⟨_, _, F21, b21, PySem.W.mg_of X G a21⟩,
    ⟨_, _, F22, b22, PySem.W.mg_of X G a22⟩,
    ⟨_, _, F23, b23, PySem.W.mg_of X G a23⟩,
    ⟨_, _, F24, b24, PySem.W.mg_of X G a24⟩,
    ⟨_, _, F25, b25, PySem.W.mg_of X G a25⟩,
    ⟨_, _, F26, b26, PySem.W.mg_of X G a26⟩,
    ⟨_, _, F27, b27, PySem.W.mg_of X G a27⟩,
    ⟨_, _, F28, b28, PySem.W.mg_of X G a28⟩,
    ⟨_, _, F29, b29, PySem.W.mg_of X G a29⟩,
    ⟨_, _, F30, b30, PySem.W.mg_of X G a30⟩,
    ⟨_, _, F31, b31, PySem.W.mg_of X G a31⟩,
    ⟨_, _, F32, b32, PySem.W.mg_of X G a32⟩,
    ⟨_, _, F33, b33, PySem.W.mg_of X G a33⟩,
    ⟨_, PySem.W.mg_of X G y_MOST, _, rfl⟩,
    ⟨_, PySem.W.mg_of X G y_NOTHING, _, rfl⟩,
    PySem.W.mg_none_of X G z_abs,
    PySem.W.mg_none_of X G z_all,
    PySem.W.mg_none_of X G z_bool,
    PySem.W.mg_none_of X G z_enumerate,
    PySem.W.mg_none_of X G z_int,
    PySem.W.mg_none_of X G z_isinstance,
    PySem.W.mg_none_of X G z_len,
    PySem.W.mg_none_of X G z_list,
    PySem.W.mg_none_of X G z_max,
    PySem.W.mg_none_of X G z_min,
    PySem.W.mg_none_of X G z_range,
    PySem.W.mg_none_of X G z_repr,
    PySem.W.mg_none_of X G z_set,
    PySem.W.mg_none_of X G z_sorted,
    PySem.W.mg_none_of X G z_str,
    PySem.W.mg_none_of X G z_tuple,
    PySem.W.mg_none_of X G z_zip⟩
  obtain ⟨f, fd, F, b, m, C⟩ := law_ok (P := l.prog) (w := w) D
  have e2 := m.symm.trans (PySem.W.mg_of X G a33)
  cases e2
  have e3 := F.one F33
  subst e3
  exact C.fn

end DL.K45
open PySem PySem.W PyProof.Rows
set_option maxHeartbeats 0 in
theorem PySem.Challenge.cw_samelayout_k45_settings_written_and_read_holds : PySem.Challenge.rw_samelayout_k45_settings_written_and_read.Holds := by
  w_on; o_law; k_head; (case hw => w_witness2)
  k_fill
  refine SL.walkG (l := PySem.Challenge.rw_samelayout_k45_settings_written_and_read) (n := 63) (k := 8) (x := "_law_script") (sp := fun K => DL.spD [] K 1 DL.g_law) rfl (by decide) rfl ⟨rfl, by decide, by decide⟩ (fun w h Y => by first | exact PySem.W.km_in_of Y | exact PySem.W.kIn_of Y) ?F (fun K H a ns hl only hS => DL.law_start (cs := []) (fun p hp => by cases hp) (fun p hp => by cases hp) hS fun x hx => ⟨ns, x, rfl, hx, hl, fun _ => rfl⟩)
  case F =>
    intro w mg fa h KX G hmg
    refine' DL.K45.all_mk KX G hmg ?a1 ?l1 ?c1 ?k1 ?a2 ?l2 ?c2 ?k2 ?a3 ?l3 ?c3 ?k3 ?a4 ?l4 ?c4 ?k4 ?a5 ?l5 ?c5 ?k5 ?a6 ?l6 ?c6 ?k6 ?a7 ?l7 ?c7 ?k7 ?a8 ?l8 ?c8 ?k8 ?a9 ?l9 ?c9 ?k9 ?a10 ?l10 ?c10 ?k10 ?a11 ?l11 ?c11 ?k11 ?a12 ?l12 ?c12 ?k12 ?a13 ?l13 ?c13 ?k13 ?a14 ?l14 ?c14 ?k14 ?a15 ?l15 ?c15 ?k15 ?a16 ?l16 ?c16 ?k16 ?a17 ?l17 ?c17 ?k17 ?a18 ?l18 ?c18 ?k18 ?a19 ?l19 ?c19 ?k19 ?a20 ?l20 ?c20 ?k20 ?a21 ?l21 ?c21 ?k21 ?a22 ?l22 ?c22 ?k22 ?a23 ?l23 ?c23 ?k23 ?a24 ?l24 ?c24 ?k24 ?a25 ?l25 ?c25 ?k25 ?a26 ?l26 ?c26 ?k26 ?a27 ?l27 ?c27 ?k27 ?a28 ?l28 ?c28 ?k28 ?a29 ?l29 ?c29 ?k29 ?a30 ?l30 ?c30 ?k30 ?a31 ?l31 ?c31 ?k31 ?a32 ?l32 ?c32 ?k32 ?a33 ?l33 ?c33 ?k33 ?y_MOST ?y_NOTHING ?z_abs ?z_all ?z_bool ?z_enumerate ?z_int ?z_isinstance ?z_len ?z_list ?z_max ?z_min ?z_range ?z_repr ?z_set ?z_sorted ?z_str ?z_tuple ?z_zip
    (case a1 => k_is); (case l1 => k_is); (case c1 => k_is); (case k1 => k_is)
    (case a2 => k_is); (case l2 => k_is); (case c2 => k_is); (case k2 => k_is)
    (case a3 => k_is); (case l3 => k_is); (case c3 => k_is); (case k3 => k_is)
    (case a4 => k_is); (case l4 => k_is); (case c4 => k_is); (case k4 => k_is)
    (case a5 => k_is); (case l5 => k_is); (case c5 => k_is); (case k5 => k_is)
    (case a6 => k_is); (case l6 => k_is); (case c6 => k_is); (case k6 => k_is)
    (case a7 => k_is); (case l7 => k_is); (case c7 => k_is); (case k7 => k_is)
    (case a8 => k_is); (case l8 => k_is); (case c8 => k_is); (case k8 => k_is)
    (case a9 => k_is); (case l9 => k_is); (case c9 => k_is); (case k9 => k_is)
    (case a10 => k_is); (case l10 => k_is); (case c10 => k_is); (case k10 => k_is)
    (case a11 => k_is); (case l11 => k_is); (case c11 => k_is); (case k11 => k_is)
    (case a12 => k_is); (case l12 => k_is); (case c12 => k_is); (case k12 => k_is)
    (case a13 => k_is); (case l13 => k_is); (case c13 => k_is); (case k13 => k_is)
    (case a14 => k_is); (case l14 => k_is); (case c14 => k_is); (case k14 => k_is)
    (case a15 => k_is); (case l15 => k_is); (case c15 => k_is); (case k15 => k_is)
    (case a16 => k_is); (case l16 => k_is); (case c16 => k_is); (case k16 => k_is)
    (case a17 => k_is); (case l17 => k_is); (case c17 => k_is); (case k17 => k_is)
    (case a18 => k_is); (case l18 => k_is); (case c18 => k_is); (case k18 => k_is)
    (case a19 => k_is); (case l19 => k_is); (case c19 => k_is); (case k19 => k_is)
    (case a20 => k_is); (case l20 => k_is); (case c20 => k_is); (case k20 => k_is)
    (case a21 => k_is); (case l21 => k_is); (case c21 => k_is); (case k21 => k_is)
    (case a22 => k_is); (case l22 => k_is); (case c22 => k_is); (case k22 => k_is)
    (case a23 => k_is); (case l23 => k_is); (case c23 => k_is); (case k23 => k_is)
    (case a24 => k_is); (case l24 => k_is); (case c24 => k_is); (case k24 => k_is)
    (case a25 => k_is); (case l25 => k_is); (case c25 => k_is); (case k25 => k_is)
    (case a26 => k_is); (case l26 => k_is); (case c26 => k_is); (case k26 => k_is)
    (case a27 => k_is); (case l27 => k_is); (case c27 => k_is); (case k27 => k_is)
    (case a28 => k_is); (case l28 => k_is); (case c28 => k_is); (case k28 => k_is)
    (case a29 => k_is); (case l29 => k_is); (case c29 => k_is); (case k29 => k_is)
    (case a30 => k_is); (case l30 => k_is); (case c30 => k_is); (case k30 => k_is)
    (case a31 => k_is); (case l31 => k_is); (case c31 => k_is); (case k31 => k_is)
    (case a32 => k_is); (case l32 => k_is); (case c32 => k_is); (case k32 => k_is)
    (case a33 => k_is); (case l33 => k_is); (case c33 => k_is); (case k33 => k_is)
    (case y_MOST => k_is)
    (case y_NOTHING => k_is)
    (case z_abs => k_is)
    (case z_all => k_is)
    (case z_bool => k_is)
    (case z_enumerate => k_is)
    (case z_int => k_is)
    (case z_isinstance => k_is)
    (case z_len => k_is)
    (case z_list => k_is)
    (case z_max => k_is)
    (case z_min => k_is)
    (case z_range => k_is)
    (case z_repr => k_is)
    (case z_set => k_is)
    (case z_sorted => k_is)
    (case z_str => k_is)
    (case z_tuple => k_is)
    (case z_zip => k_is)

