import PyProof.Rows.All
import Wide.All
import OpenK.AllK
import Wide.FinOn
import HandS.ForMost
import HandS.IsInst
import HandS.Conv
import HandS.SetFor
import HandS.SortInts
import HandS.TupAny
import HandS.Wide
import HandS.Style
import HandS.RaiseMore
import HandS.ExcValue
import PyProof.ReprLen
import PySem.Challenge.RW_samelayout_k01_probe_orders_of_any_value
set_option Elab.async false
set_option linter.all false
set_option maxRecDepth 100000
namespace SL
open PySem PySem.Spec PyProof.Rows L2

/-! ### defs that are called where no text of an object is being made -/
structure FnG (P : Program) (w : World) (K : PySem.W.Frag) (mg : Str → Option Value) (base : Heap) (k : Nat) (f : Addr)
    (fd : FuncData) (ps : List Str) (sp : Sp) : Prop where
  size : ∀ vs H Q E, sp vs H Q E → vs.length = ps.length
  go : ∀ (A : Around) (outer : List Env) (s : Shared) (H : Hp) (args : Args) (us : List Value) (vs : List V) (Q : VK) (E : XK),
    A.guards = some [] → Room k A → Env0 P w K mg base A outer s H → BindsTo s fd args (ps.zip us) → Vals vs us →
    sp vs H Q E → codeAny (model P w) A (.call (.ref f) args) (CR CX0 outer P w H s Q E) s

section
variable {P : Program} {w : World} {K : PySem.W.Frag} {mg : Str → Option Value} {base : Heap}
theorem fnG_mk {x qual : Str} {st : Stmt} {f : Addr} {fd : FuncData} {N ps : List Str} {k : Nat} {sp : Sp}
    (F : Fun K x qual st f fd) (sc : FnScope N ps (defScope st)) (size : ∀ vs H Q E, sp vs H Q E → vs.length = ps.length)
    (body : ∀ (cdv : Value) (A : Around) (outer : List Env) (s : Shared) (H : Hp) (vs : List V) (Q : VK) (E : XK),
      A.guards = some [] → Room k (A.deeper (envOfC qual (defScope st) s.heap.objs.size f cdv)) → sp vs H Q E →
      ∃ t, PSs (cxOf CX0 P w K mg base N qual (defScope st) f cdv A outer s H E).nox (defBody st) t ∧
        t { nx := fun _ H' => Q .non H', rt := Q } (start N vs) H) : FnG P w K mg base (k + 1) f fd ps sp := by
  obtain ⟨oc, od, kV, doc, pm, an, cdv, ct, osl, rfl, look, code⟩ := F.ex
  constructor
  · exact size
  · intro A outer s H args us vs Q E hgd room env bound rel prom
    have many := size _ _ _ _ prom
    have inK : K.In s.heap := env.mod.kin.keeps fun b o q => (env.bs b o q).1
    have free : s.heap.NoLimit := env.mod.nolimit.keeps fun b o q => (env.bs b o q).1
    refine codeAny_call_function room.depth (inK _ _ look) rfl sc.co sc.gen rfl (PySem.W.codeRec_of inK code)
      (bound _ _ _ _ ?_)
    refine wpAny_newFunctionEnv_cells sc.kind ?kinds fun env' same s1 fresh => ?_
    case kinds =>
      rintro ⟨n, v⟩ here
      rcases sc.par n (List.of_mem_zip here).1 with q | q
      · exact Or.inl q
      · exact Or.inr ⟨q, PySem.W.cellsFrom_some _ _ _ (Or.inl q)⟩
    subst same
    refine ⟨free.keeps fresh.toInCall.keep, codeAny_func ?_⟩
    obtain ⟨t, der, reading⟩ := body cdv A outer s H vs Q E hgd (room.deeper _) prom
    have I := inv_start (CX := CX0) (E := E) sc room.hd env many rel fresh
    refine wpAny_mono (der.nox.run [] s1 (start N vs) H _ I reading) (fun fl s' e => ?_) fun _ _ e => e
    cases fl with
    | ret u => obtain ⟨v, σ', H', J, r', q⟩ := e; exact ⟨v, H', J.os, J.bare, J.base, J.hok, r', q⟩
    | next => obtain ⟨σ', H', J, q⟩ := e; exact ⟨.non, H', J.os, J.bare, J.base, J.hok, rfl, q⟩
    | brk => obtain ⟨_, _, _, q⟩ := e; exact False.elim q
    | cont => obtain ⟨_, _, _, q⟩ := e; exact False.elim q

/-- a call of such a def by its name -/
theorem pe_callG {X : Cx} {k : Nat} {f : Addr} {fd : FuncData} {ps : List Str} {sp : Sp} {x : Str} {p pos : Pos} {e : Expr} {es : List Expr} {t : TA}
    (F : FnG X.prog X.w X.K X.mg X.base k f fd ps sp) (gd : X.A.guards = some []) (room : Room k X.A) (gl : Gl X x)
    (at_ : X.mg x = some (.ref f)) (keep : PySem.W.keepIn X.K (.ref f) = true) (bd : Binds X.K fd ps []) (args : PA X (e :: es) t)
    (h1 : (x == ("__debug__" : Str)) = false := by decide)
    (h2 : starEach (e :: es) X.env = (false, eval e X.env) :: starEach es X.env := by rfl)
    (h3 : (backTo pos (starEach es X.env)).any (·.1) = false := by rfl) :
    PE X (.Call (.Name x p) (e :: es) [] pos) (tCall sp [] E0 t) := by
  constructor
  intro pins s σ H Q I h
  refine wpAny_Call_Name_kw (ld_glob I gl at_ ?_ h1)
  refine PySem.W.callWith_K (h₀ := X.base) I.ok.mod.kin keep (thn (args.run pos pins s σ H _ I h) ?_) h2 h3
  rintro us s1 ⟨vs, H1, I1, rel, q⟩
  refine ⟨I1.kIn, ?_⟩
  have q' : sp vs H1 Q E0 := by have z := q; rw [List.append_nil] at z; exact z
  have long : us.length = ps.length := by rw [← rel.length]; exact F.size _ _ _ _ q'
  have bd' := bd s1 us I1.kIn (by rw [List.append_nil]; exact long)
  rw [List.append_nil] at bd'
  refine wpAny_call (codeAny_mono (F.go X.A X.stack s1 H1 ⟨us, []⟩ us vs Q E0 gd room I1.env0 bd' rel q') fun r s' here => ?_)
  cases r with
  | error _ => exact False.elim here
  | ok fl => cases fl with
    | ret _ => exact I1.after here
    | next => exact False.elim here
    | brk => exact False.elim here
    | cont => exact False.elim here
end

/-! ### the law's own call -/
theorem lawG {P : Program} {w : World} {K : PySem.W.Frag} {mg mb : Str → Option Value} {k : Nat} {fa a : Addr} {fd : FuncData} {x : Str} {sp : Sp}
    {s₁ : Shared} {vs : List Value} {ns : List Int} (inK : K.In s₁.heap) (gl : s₁.heap.Ns mainGlobals mg) (bl : s₁.heap.Ns builtinsNs mb)
    (bb : ∀ x : Str, x ≠ "__name__" → mb x = bootBuiltins x) (lim : s₁.heap.NoLimit) (gens : s₁.gens = #[])
    (obj : s₁.heap.get? a = some { cls := .type "list", data := .seq vs.toArray }) (nums : IntsAre vs ns) (few : ns.length ≤ sizeLine) (room : Room k callerA)
    (F : ∀ base : Heap, K.In base → base.Ns mainGlobals mg → FnG P w K mg base k fa fd [x] sp)
    (bound : ∀ (s : Shared) (u : Value), BindsTo s fd ⟨[u], []⟩ [(x, u)])
    (prom : ∀ H : Hp, Only H → SqL K H a (ns.map V.int) → sp [.ref a] H (fun v _ => v = .bl true) E0) :
    codeAny (model P w) callerA (.call (.ref fa) ⟨[.ref a], []⟩)
      (fun r s' => r = .ok (.ret (.bool true)) ∧ OldK s₁.heap s'.heap ∧ s'.os = s₁.os ∧ AllBare s'.gens) s₁ := by
  have rel := vals_ints nums
  have inner : ∀ H : Hp, Only H → SqL K H a (ns.map V.int) → HOk P w H s₁.heap → (∀ b, H b ≠ none → b = a) →
      (H a ≠ none → K.lookup a = none) → codeAny (model P w) callerA (.call (.ref fa) ⟨[.ref a], []⟩)
        (fun r s' => r = .ok (.ret (.bool true)) ∧ OldK s₁.heap s'.heap ∧ s'.os = s₁.os ∧ AllBare s'.gens) s₁ := by
    intro H only seq hok alone outK
    have dictFree : ∀ {b : Addr} {o : Obj} {es : Array DictEntry} {ep : Nat}, s₁.heap.get? b = some o → o.data = .dict es ep → H b = none := by
      intro b o es ep e d
      cases q : H b with
      | none => rfl
      | some u =>
        obtain rfl : b = a := alone b (by rw [q]; intro z; cases z)
        rw [obj] at e
        cases e
        cases (show Data.seq vs.toArray _ = Data.dict es ep from d)
    have nsH : ∀ {b : Addr} {m : Str → Option Value}, s₁.heap.Ns b m → (hidT s₁.heap H).Ns b m := by
      rintro b m ⟨o, es, ep, e, d, r⟩
      exact ⟨o, es, ep, hidT_get e (dictFree e d), d, r⟩
    have kH : K.In (hidT s₁.heap H) := by
      intro b o e
      refine hidT_get (inK b o e) ?_
      cases q : H b with
      | none => rfl
      | some u =>
        obtain rfl : b = a := alone b (by rw [q]; intro z; cases z)
        rw [outK (by rw [q]; intro z; cases z)] at e
        cases e
    have limH : (hidT s₁.heap H).NoLimit := by
      obtain ⟨mc, h1, h2⟩ := lim
      exact ⟨mc, nsH h1, h2⟩
    have env : Env0 P w K mg (hidT s₁.heap H) callerA [] s₁ H := by
      refine ⟨rfl, ⟨kH, nsH gl, ⟨mb, nsH bl, bb⟩, limH⟩, fun b o e => of_hidT e, Nat.le_of_eq (hidT_size _ _), trivial, ?_, hok, .of_eq gens⟩
      intro b hb
      cases (show b ∈ ([] : List Addr) from hb)
    have G := F _ kH (nsH gl)
    refine codeAny_mono (G.go callerA [] s₁ H ⟨[.ref a], []⟩ [.ref a] [.ref a] _ _ rfl room env (bound s₁ (.ref a)) (.cons rfl .nil) (prom H only seq)) ?_
    intro r s' h
    cases r with
    | error e => exact False.elim h
    | ok fl => cases fl with
      | next => exact False.elim h
      | brk => exact False.elim h
      | cont => exact False.elim h
      | ret u =>
        obtain ⟨v, H', os, bare, un, hok', r', q⟩ := h
        obtain rfl : v = .bl true := q
        obtain rfl : u = Value.bool true := r'
        refine ⟨rfl, OldK.of_keep ?_, os, bare⟩
        intro b o e
        rcases only b with z | ⟨ob, xs, z⟩
        · exact un.keep b o e z (fun m => by cases (show b ∈ ([] : List Addr) from m)) (fun m => by cases m)
        · obtain ⟨e1, _⟩ := hok b _ z
          obtain ⟨e2, _⟩ := hok' b _ (un.frzs b ob _ z)
          rw [e] at e1
          cases e1
          exact e2
  cases written : K.lookup a with
  | some o =>
    have e := inK a o written
    rw [obj] at e
    cases e
    refine inner (fun _ => none) (fun _ => Or.inl rfl) (Or.inr ⟨_, vs.toArray, _, written, rfl, rfl, rfl, ?_, ?_⟩) (fun b u z => by cases z) (fun b z => absurd rfl z) (fun z => absurd rfl z)
    · rw [List.size_toArray, nums.length]; exact few
    · simpa using rel
  | none =>
    have yes : ∀ b : Addr, b = a → (fun b => if b = a then some (HO.frz { cls := .type "list", data := .seq vs.toArray } (.lst (ns.map V.int))) else none) b = some (HO.frz { cls := .type "list", data := .seq vs.toArray } (.lst (ns.map V.int))) := fun b e => if_pos e
    have no : ∀ b : Addr, b ≠ a → (fun b => if b = a then some (HO.frz { cls := .type "list", data := .seq vs.toArray } (.lst (ns.map V.int))) else none) b = none := fun b e => if_neg e
    refine inner (fun b => if b = a then some (HO.frz { cls := .type "list", data := .seq vs.toArray } (.lst (ns.map V.int))) else none) ?_ (Or.inl (Or.inr ⟨_, yes a rfl⟩)) ?_ ?_ (fun _ => written)
    · intro b
      by_cases same : b = a
      · exact Or.inr ⟨_, _, yes b same⟩
      · exact Or.inl (no b same)
    · intro b u z
      by_cases same : b = a
      · have z' := (yes b same).symm.trans z
        cases z'
        subst same
        exact ⟨obj, by rw [List.length_map]; exact few, vs, _, rel, obj⟩
      · have z' := (no b same).symm.trans z
        cases z'
    · intro b z
      by_cases same : b = a
      · exact same
      · exact absurd (no b same) z

theorem walkG {l : PySem.W.OpenLaw} {n k : Nat} {q : Program} {loose : List Str} {XP : (Str → Option Value) → Heap → Prop} {YP : World → Heap → Prop}
    {d : DefRec} {K : Params → PySem.W.Frag} {sp : PySem.W.Frag → Sp} {x : Str} (most : l.most = some n) (few : n ≤ sizeLine)
    (plain : d.params.defaults = []) (room : Room k callerA) (inK : ∀ (w : World) (h : Heap), YP w h → (K w.params).In h)
    (F : ∀ (w : World) (mg : Str → Option Value) (fa : Addr) (h : Heap), (K w.params).In h → h.Ns mainGlobals mg → mg d.name = some (.ref fa) →
      ∃ fd : FuncData, (∀ (s : Shared) (u : Value), BindsTo s fd ⟨[u], []⟩ [(x, u)]) ∧
        ∀ base : Heap, (K w.params).In base → base.Ns mainGlobals mg → FnG l.prog w (K w.params) mg base k fa fd [x] (sp (K w.params)))
    (prom : ∀ (K : PySem.W.Frag) (H : Hp) (a : Addr) (ns : List Int), ns.length ≤ n → Only H → SqL K H a (ns.map V.int) →
      sp K [.ref a] H (fun v _ => v = .bl true) E0) :
    PySem.W.WalkO q loose XP YP l.row.toRowW d [] (fun f vs => PySem.call f vs) := by
  refine Att.attach_call most plain ?_
  intro w s₀ s₁ mg mb fa o pm cd doc a vs ns G Y ho hd hcd named obj nums len gens
  obtain ⟨fd, bound, hF⟩ := F w mg fa _ (inK w _ Y) G.T.g named
  exact lawG (inK w _ Y) G.T.g G.T.b G.T.builtins G.T.nolimit gens obj nums (Nat.le_trans len few) room hF bound
    (fun H only seq => prom (K w.params) H a ns len only seq)
end SL

namespace SL
open PySem PySem.Spec PyProof.Rows L2

/-! ### powers of great numbers -/
theorem op_powB {X : Cx} : OpR X (binaryOp .Pow) (rI (fun i j => 0 ≤ j ∧ (Builtin.Int.intBits i : Int) * j ≤ 2 ^ 27) fun i j => .int (i ^ j.toNat)) :=
  opI fun _ _ _ _ _ _ _ c q => pow_int c.1 c.2 q

/-! ### repr -/
/-- a value that is data: as the layer reads it, or an empty dict -/
def Da (K : PySem.W.Frag) (H : Hp) (v : V) (d : PyData) : Prop :=
  (Dp K H v d ∧ d.hasDict = false) ∨ ∃ a, v = .ref a ∧ H a = some (.dK []) ∧ d = .dict []
def rRepr (K : PySem.W.Frag) : List V → Hp → VK → Prop := fun xs H Q => ∃ v d, xs = [v] ∧ Da K H v d ∧ d.showable = true ∧ d.depth ≤ 50 ∧
  d.shown.length ≤ sizeLine ∧ Q (.str d.shown) H
theorem call_reprD {X : Cx} (gd : X.A.guards = some []) (hu : X.A.units + 64 < cLine) : CallR X (.builtin "repr") (rRepr X.K) := by
  intro pins s σ H xs us Q I r h
  obtain ⟨v, d, rfl, da, sh, dep, siz, q⟩ := h
  cases r with
  | cons r0 rt =>
    cases rt
    rename_i u
    have big : ∀ (a : Addr) (as : List Addr), Reads s.heap (.ref a) d as → (d.hasDict = true → sysModules ∉ as) → u = .ref a →
        wpAny (model X.prog X.w) X.A (call (.builtin "repr") [u]) (EP X pins σ Q) X.xe s := by
      intro a as rd nd e
      subst e
      refine repr_of_reads' rd sh nd gd (by omega) (fun _ _ e => e) (fun h' u tk kept => ?_) siz
      exact ⟨.str d.shown, H, I.kept kept, ⟨_, rfl⟩, q⟩
    rcases da with ⟨dp, nd⟩ | ⟨a, rfl, ha, rfl⟩
    · obtain ⟨as, rd⟩ := Dp.reads I d v u dp r0
      cases dp with
      | non => cases r0; exact PySem.P.repr_of_none ⟨.str _, H, I.tok _, ⟨_, rfl⟩, q⟩
      | bl b => cases r0; exact PySem.P.repr_of_bool ⟨.str _, H, I.tok _, ⟨_, rfl⟩, q⟩
      | int i =>
        obtain ⟨t, rfl⟩ := r0
        exact PySem.P.repr_of_int (of_decide_eq_true sh) ⟨.str _, H, I.tok _, ⟨_, rfl⟩, q⟩
      | str x =>
        obtain ⟨t, rfl⟩ := r0
        exact PySem.P.repr_of_str (h := ⟨.str _, H, I.tok _, ⟨_, rfl⟩, q⟩) siz
      | lst _ _ => cases r0; exact big _ as rd (fun z => by rw [nd] at z; cases z) rfl
      | tup _ _ => cases r0; exact big _ as rd (fun z => by rw [nd] at z; cases z) rfl
    · cases r0
      obtain ⟨_, ns, vs, kv, o, es, ep, e, ex, dt, rest⟩ := I.hok a _ ha
      cases kv
      have e0 : es.toList = [] := by
        have z := rest.2.1.length
        cases q : es.toList with
        | nil => rfl
        | cons x y => rw [q] at z; cases z
      refine big a ([a]) ?_ (fun _ m => ?_) rfl
      · exact Reads.dict (as := []) (bs := []) e ex.1 dt (by rw [e0]; exact .nil) (by rw [e0]; exact .nil)
      · rw [List.mem_singleton] at m
        rw [← m] at ns
        simp at ns

theorem objGet {P : Program} {w : World} {H : Hp} {h : Heap} {a : Addr} {o : HO} (x : ObjOk P w H h a o) : ∃ u, h.get? a = some u := by
  cases o with
  | lst xs => obtain ⟨_, _, _, _, e⟩ := x; exact ⟨_, e⟩
  | tup xs => obtain ⟨_, _, _, _, e, _⟩ := x; exact ⟨_, e⟩
  | dK kvs => obtain ⟨_, _, _, _, _, _, _, e, _⟩ := x; exact ⟨_, e⟩
  | dT kvs => obtain ⟨_, _, _, _, _, _, _, e, _⟩ := x; exact ⟨_, e⟩
  | set S n => obtain ⟨_, _, _, _, e, _⟩ := x; exact ⟨_, e⟩
  | ins C dx fs => obtain ⟨_, _, _, e, _⟩ := x; exact ⟨_, e⟩
  | own y => exact x
  | xd fs => obtain ⟨_, ⟨_, _, _, e, _⟩, _⟩ := x; exact ⟨_, e⟩
  | rng lo hi => obtain ⟨_, _, _, e⟩ := x; exact ⟨_, e⟩
  | frz ob u => obtain ⟨e, _⟩ := x; exact ⟨_, e⟩
  | tbl ps => exact ⟨_, x⟩
  | met f y => exact ⟨_, x⟩
  | ext φ => obtain ⟨_, e, _⟩ := x; exact e

/-! ### sorted(t), a tuple of ints -/
def rSortT (K : PySem.W.Frag) : List V → Hp → VK → Prop := fun vs H Q => ∃ (a : Addr) (ns : List Int), vs = [V.ref a] ∧ SqT K H a (ns.map V.int) ∧
  ∀ (out : List Int) (p : Addr), out.Perm ns → out.Pairwise (· ≤ ·) → H p = none → Q (.ref p) (upd H p (.lst (out.map V.int)))
theorem cr_sortT {X : Cx} : CallR X (.builtin "sorted") (rSortT X.K) := by
  intro pins s σ H vs us Q I r h
  obtain ⟨a, ns, rfl, hs, q⟩ := h
  obtain ⟨its, rv, ht, hz⟩ := I.tuple hs
  obtain ⟨o, ho, hc, n, hd⟩ := id ht
  rw [Vals.ref1 r]
  have nums := rv.ints
  have hz' : its.length ≤ sizeLine := by rw [← rv.length]; exact hz
  refine Calls.call_function_entry kind_sorted plain_sorted entry_sorted (args_sorted1 _) ?_
  unfold Builtin.«sorted»
  refine wpAny_bind (m := checkCount "sorted" 1 1 _) (wpAny_pure ?_)
  refine wpAny_bind (wpAny_collect_seq a (Or.inr rfl) ho hc hd (fun h1 kept => ?_) (by simpa using hz'))
  refine wpAny_bind (wpAny_newList ?_ (by simpa using hz'))
  have hoL : (h1.push (seqObj "list" its.toArray 0)).get? h1.objs.size = some (seqObj "list" its.toArray 0) := Heap.get?_push_size _ rfl
  have new1 : s.heap.get? h1.objs.size = none := by
    cases q : s.heap.get? h1.objs.size with
    | none => rfl
    | some o => exact absurd (Heap.lt_size (kept _ _ q)) (Nat.lt_irrefl _)
  have new2 : H h1.objs.size = none := by
    cases q : H h1.objs.size with
    | none => rfl
    | some u =>
      obtain ⟨o, z⟩ := objGet (I.hok _ _ q)
      rw [new1] at z
      cases z
  show wpAny _ _ _ _ _ { s with heap := h1.push (seqObj "list" its.toArray 0) }
  refine wpAny_bind (wpAny_holding (wpAny_call_entry slot_list_sort ⟨_, hoL, rfl⟩ entry_list_sort
    (SrtO.list_sort_ord SrtO.swo_int hoL hz' (fun h2 => SrtO.ints_sortable nums h2) fun out hs hb => ⟨_, rfl, ?_⟩) (args_list_sort _)))
  refine wpAny_pure ⟨_, rfl, ?_⟩
  obtain ⟨k1, k2, k3⟩ := SrtO.ints_out nums hs hb
  obtain ⟨ep, he⟩ := sortedHeap_at (vs := its) (out := out.toArray) hoL
  have len : ((out.map SrtO.iv).map V.int).length ≤ sizeLine := by
    rw [List.length_map, k2.length_eq]
    rw [List.length_map] at hz
    exact hz
  refine ⟨.ref h1.objs.size, upd H h1.objs.size (.lst ((out.map SrtO.iv).map V.int)), I.laidN (t' := s.toks) ?_ new1 new2 ⟨len, out, ep, vals_of_ints k1, he⟩, rfl, q _ _ k2 k3 new2⟩
  intro b u hu
  have lt : b < h1.objs.size := Heap.lt_size (kept _ _ hu)
  have lt2 : b < (h1.push (seqObj "list" its.toArray 0)).objs.size := by rw [Heap.size_push]; exact Nat.lt_succ_of_lt lt
  rw [sortedHeap_old (Nat.ne_of_lt lt) lt2]
  exact Heap.get?_push_of_some _ (kept _ _ hu)

/-! ### len(set(t)), a tuple of ints -/
def tLenSetT (K : PySem.W.Frag) (ta : TE) : TE := fun σ H Q => ta σ H fun x H1 => ∃ (l : Addr) (ns : List Int), x = .ref l ∧ SqT K H1 l (ns.map V.int) ∧ ns.length ≤ 4000 ∧
  ∀ ks : List Int, ks.Nodup → (∀ k, k ∈ ks ↔ k ∈ ns) → Q (.int (ks.length : Nat)) H1
theorem pe_lenSetT {X : Cx} {a : Expr} {ta : TE} {p p2 q pos : Pos} (g1 : Gl X "len") (m1 : X.mg "len" = none) (g2 : Gl X "set") (m2 : X.mg "set" = none) (ha : PE X a ta)
    (calm : X.calm = true := by rfl) (one : starEach [a] X.env = (false, eval a X.env) :: starEach [] X.env := by rfl) :
    PE X (.Call (.Name "len" p) [.Call (.Name "set" p2) [a] [] q] [] pos) (tLenSetT X.K ta) := by
  constructor
  intro pins s σ H Q I h
  refine Call_ (ld_blt I g1 m1 boot_len ?_)
  refine callWith_builtin1 (args_cons ?_ rfl) rfl rfl
  refine Call_ (ld_blt I g2 m2 boot_set ?_)
  refine callWith_type1 (args_cons (thn (ha.run pins s σ H _ I h) ?_) one) one rfl
  rintro v s1 ⟨x, H1, I1, r1, l, ns, rfl, seq, few, q1⟩
  refine args_nil ?_
  cases r1
  obtain ⟨its, rv, ht, hz⟩ := I1.tuple seq
  refine call_set_tupI ns (I1.ok.hd calm) ht (by simpa using rv.ints) (by unfold scanBound; omega) fun h' tk c hS hc kept => ?_
  refine args_nil ?_
  obtain ⟨o, es, ep, t, ho, ex, dt, _, nd, mem, lt, fits, siz, _⟩ := hS
  have I2 : Inv X pins σ H1 { s1 with heap := h', toks := tk } := I1.kept kept
  have len : (es.toList.map keyOf).length = es.size := by rw [List.length_map, Array.length_toList]
  have few' : (es.size : Int) < 2 ^ 63 := by
    have z : es.size ≤ 4000 := by omega
    omega
  refine call_len_set ho ex dt fits few' ⟨.int es.size, H1, I2.tok _, ⟨_, rfl⟩, ?_⟩
  have z := q1 (es.toList.map keyOf) nd fun k => by rw [← mem k]; simp
  rw [len] at z
  exact z

/-! ### t[::-1], a tuple -/
theorem adjustBack (n : Nat) : Builtin.Slice.sliceAdjust none none (-1) (n : Int) = ((n : Int) - 1, -1) := by
  unfold Builtin.Slice.sliceAdjust
  simp
theorem placesBack (n : Nat) : Builtin.Slice.slicePlaces ((n : Int) - 1) (-1) (-1) = n := by
  unfold Builtin.Slice.slicePlaces
  simp
  omega
theorem pickBack (xs : Array Value) : ((List.range xs.size).filterMap fun (m : Nat) => xs[(((xs.size : Int) - 1) + (m : Int) * (-1)).toNat]?).toArray = xs.toList.reverse.toArray := by
  have e : ((List.range xs.size).filterMap fun (m : Nat) => xs[(((xs.size : Int) - 1) + (m : Int) * (-1)).toNat]?) = ((List.range xs.size).map fun k => xs.size - 1 - k).filterMap (xs[·]?) := by
    rw [List.filterMap_map]
    have all : ∀ l : List Nat, (∀ m ∈ l, m < xs.size) → (l.filterMap fun (m : Nat) => xs[(((xs.size : Int) - 1) + (m : Int) * (-1)).toNat]?) = l.filterMap ((fun x => xs[x]?) ∘ fun k => xs.size - 1 - k) := by
      intro l
      induction l with
      | nil => intro _; rfl
      | cons m r ih =>
        intro hl
        have z : (((xs.size : Int) - 1) + (m : Int) * (-1)).toNat = xs.size - 1 - m := by
          have := hl m List.mem_cons_self
          omega
        rw [List.filterMap_cons, List.filterMap_cons, z, ih fun n hn => hl n (List.mem_cons_of_mem _ hn)]
        rfl
    exact all _ fun m hm => List.mem_range.mp hm
  rw [e, PySem.W.krv_range, List.filterMap_reverse, PySem.W.krv_all]
def tRevT (K : PySem.W.Frag) (te : TE) : TE := fun σ H Q => te σ H fun x H1 => ∃ a xs, x = .ref a ∧ SqT K H1 a xs ∧ ∀ p, H1 p = none → Q (.ref p) (upd H1 p (.tup xs.reverse))
theorem pe_revT {X : Cx} {e : Expr} {te : TE} {k : Nat} {p1 p2 p3 pos : Pos} (he : PE X e te) :
    PE X (.Subscript e (.Slice none none (some (.UnaryOp .USub (.Constant (.int 1) k p1) p2)) p3) pos) (tRevT X.K te) := by
  constructor
  intro pins s σ H Q I h
  refine Subscript_ (thn (he.run pins s σ H _ I h) ?_)
  rintro v s1 ⟨x, H1, I1, r1, a, xs, rfl, hx, q⟩
  cases r1
  have step : PO X (some (.UnaryOp .USub (.Constant (.int 1) k p1) p2)) (tPart (tUn (rU fun i => .int (-i)) (tC (.int 1)))) := po_some (pe_un un_neg pe_int)
  refine wpAny_Slice (thn (po_none.run pins s1 σ H1 (fun o G => o = none ∧ G = H1) I1 ⟨rfl, rfl⟩) ?_)
  rintro vl s2 ⟨l, H2, I2, pl, rfl, rfl⟩
  refine thn (po_none.run pins s2 σ H2 (fun o G => o = none ∧ G = H2) I2 ⟨rfl, rfl⟩) ?_
  rintro vu s3 ⟨u, H3, I3, pu, rfl, rfl⟩
  refine thn (step.run pins s3 σ H3 (fun o G => o = some (-1) ∧ G = H3) I3 ⟨1, rfl, -1, rfl, rfl, rfl⟩) ?_
  rintro vs s4 ⟨o, H4, I4, ps, rfl, rfl⟩
  have I5 : Inv X pins σ H4 { s4 with heap := s4.heap.push { cls := .type "slice", data := .fields #[vl, vu, vs] } } := I4.kept (t' := s4.toks) fun b ob z => Heap.get?_push_of_some _ z
  obtain ⟨its, r, ht, hz⟩ := I5.tuple hx
  have len := r.length
  show wpAny (model X.prog X.w) X.A (subscriptTail e (.Slice none none (some (.UnaryOp .USub (.Constant (.int 1) k p1) p2)) p3) (.ref a) (.ref s4.heap.objs.size)) (EP X pins σ Q) X.xe
    { s4 with heap := s4.heap.push { cls := .type "slice", data := .fields #[vl, vu, vs] } }
  refine tail_any (ops := [.ref a, .ref s4.heap.objs.size]) ht.typeIs PyProof.Rows.slot_tuple_getitem.lookup ?_ (by with_unfolding_all rfl)
  have hsl : Heap.IsSliceOf (s4.heap.push { cls := .type "slice", data := .fields #[vl, vu, vs] }) s4.heap.objs.size vl vu vs := Heap.IsSliceOf.new _ vl vu vs
  obtain ⟨os, hos, hcs, hds⟩ := id hsl
  have typ : Shared.TypeIs { s4 with heap := s4.heap.push { cls := .type "slice", data := .fields #[vl, vu, vs] } } (.ref s4.heap.objs.size) "slice" := ⟨os, hos, hcs⟩
  have small : sizeOk (.seq its.reverse.toArray) := by
    show its.reverse.toArray.size ≤ sizeLine
    rw [List.size_toArray, List.length_reverse, ← len]
    exact hz
  have fin : EP X pins σ Q (.ref (s4.heap.push { cls := .type "slice", data := .fields #[vl, vu, vs] }).objs.size)
      { s4 with heap := (s4.heap.push { cls := .type "slice", data := .fields #[vl, vu, vs] }).push { cls := .type "tuple", data := .seq its.reverse.toArray } } := by
    refine ⟨.ref _, _, I5.laid (t' := s4.toks) (o := .tup xs.reverse) (fun b ob z => Heap.get?_push_of_some _ z) (Nat.le_refl _) ?_, rfl, q _ (I5.hok.fresh (Nat.le_refl _))⟩
    exact ⟨by rw [List.length_reverse]; exact hz, _, r.reverse, ⟨_, Heap.get?_push_size _ rfl, rfl, _, rfl⟩⟩
  unfold getItem
  try with_reducible refine wpAny_holding ?_
  first | refine wpAny_bind (wpAny_pure ?_) | skip
  refine wpAny_bind (wpAny_sequenceKey ht.typeIs (by decide) ?_)
  refine wpAny_bind (wpAny_callSpecial?_slot (name := Str.ofString "__getitem__") ht.typeIs PyProof.Rows.slot_tuple_getitem (wpAny_call_entry PyProof.Rows.slot_tuple_getitem ht.typeIs PyProof.Rows.entry_tuple_getitem ?_ (PyProof.Rows.args_tuple_getitem _ _)))
  show wpAny _ _ (Builtin.Tuple.tupleItemsOf (.ref a) >>= _) _ _ _
  refine wpAny_bind (PyProof.Rows.tupleItemsOf_ ht ?_)
  refine wpAny_bind (wpAny_typeOf typ ?_)
  rw [if_pos (by decide)]
  refine wpAny_bind ?_
  unfold Builtin.Slice.sliceApplied Builtin.Slice.sliceFields
  refine wpAny_bind (wpAny_bind (wpAny_field hos hds (x := vl) rfl (wpAny_bind (wpAny_field hos hds (x := vu) rfl (wpAny_bind (wpAny_field hos hds (x := vs) rfl (wpAny_pure ?_)))))))
  refine wpAny_bind (HT.slicePart_ ps ?_)
  show wpAny _ _ (if ((-1 : Int) == 0) = true then _ else _) _ _ _
  rw [if_neg (by decide)]
  refine wpAny_bind (HT.slicePart_ pl (wpAny_bind (HT.slicePart_ pu (wpAny_bind (wpAny_pure ?_)))))
  show wpAny _ _ (match Builtin.Slice.sliceAdjust none none (-1) (its.toArray.size : Int) with | (lo, hi) => pure (lo, (-1 : Int), Builtin.Slice.slicePlaces lo hi (-1))) _ _ _
  rw [adjustBack]
  show wpAny _ _ (pure (((its.toArray.size : Int) - 1), (-1 : Int), Builtin.Slice.slicePlaces ((its.toArray.size : Int) - 1) (-1) (-1))) _ _ _
  rw [placesBack]
  refine wpAny_pure ?_
  have hno : ¬ ((((its.toArray.size : Int) - 1) == 0 && (-1 : Int) == 1 && its.toArray.size == its.toArray.size) = true) := by
    rw [show ((-1 : Int) == 1) = false from rfl, Bool.and_false, Bool.false_and]
    exact Bool.false_ne_true
  show wpAny _ _ (if (((its.toArray.size : Int) - 1) == 0 && (-1 : Int) == 1 && its.toArray.size == its.toArray.size) = true then _ else _) _ _ _
  rw [if_neg hno, pickBack]
  first
    | exact wpAny_bind (m := Builtin.Tuple.tupleExact _) (wpAny_newObj_type (wpAny_pure ⟨_, rfl, wpAny_pure fin⟩) small)
    | exact wpAny_bind (m := Builtin.Tuple.tupleExact _) (wpAny_newObj_type (wpAny_bind (wpAny_pure (wpAny_pure ⟨_, rfl, wpAny_pure fin⟩))) small)
    | exact wpAny_bind (wpAny_bind (m := Builtin.Tuple.tupleExact _) (wpAny_newObj_type (wpAny_pure (wpAny_pure ⟨_, rfl, wpAny_pure fin⟩)) small))
    | exact wpAny_bind (wpAny_bind (m := Builtin.Tuple.tupleExact _) (wpAny_newObj_type (wpAny_pure ⟨_, rfl, wpAny_pure fin⟩) small))
end SL

namespace SL
open PySem PySem.Spec PyProof.Rows L2
/-! ### the text -/
def topS (i : Nat) : Stmt := PySem.Challenge.pw_samelayout_k01_probe_orders_of_any_value.main.body.getD i (.Pass ⟨0, 0, 0, 0⟩)
abbrev sWithin : Stmt := topS 1
abbrev sOrder : Stmt := topS 3
abbrev sPot : Stmt := topS 5
abbrev sTake : Stmt := topS 6
abbrev sPick : Stmt := topS 7
abbrev sMixed : Stmt := topS 8
abbrev sLine : Stmt := topS 9
abbrev sProbe : Stmt := topS 10
abbrev sOdd : Stmt := topS 11
abbrev sBent : Stmt := topS 12
abbrev sNumber : Stmt := topS 13
abbrev sIsProbe : Stmt := topS 14
abbrev sAsked : Stmt := topS 15
abbrev sRight : Stmt := topS 16
abbrev sLaw : Stmt := topS 17
theorem scTake : FnScope ["_law_pot_here", "_law_size", "_law_digit", "_law_prime", "_law_mixed_here"] ["_law_pot_here", "_law_size"] (defScope sTake) := ⟨rfl, rfl, rfl, by decide +kernel, rfl, by decide +kernel, by decide +kernel⟩
theorem scPot : FnScope ["_law_script", "_law_k", "_law_cell", "_law_great"] ["_law_script", "_law_k"] (defScope sPot) := ⟨rfl, rfl, rfl, by decide +kernel, rfl, by decide +kernel, by decide +kernel⟩
theorem scPick : FnScope ["_law_pot_here", "_law_some"] ["_law_pot_here", "_law_some"] (defScope sPick) := ⟨rfl, rfl, rfl, by decide +kernel, rfl, by decide +kernel, by decide +kernel⟩

/-! ### heaps -/
/-- all but p is as it was -/
def Kp (p : Addr) (H H' : Hp) : Prop := ∀ b o, b ≠ p → H b = some o → H' b = some o
theorem Kp.refl (p : Addr) (H : Hp) : Kp p H H := fun _ _ _ h => h
theorem Kp.trans {p : Addr} {H H1 H2 : Hp} (a : Kp p H H1) (b : Kp p H1 H2) : Kp p H H2 := fun c o n h => b c o n (a c o n h)
theorem Kp.same {p : Addr} {H H' : Hp} (s : Same H H') : Kp p H H' := fun b o _ h => s b o h
theorem Kp.upd (p : Addr) (H : Hp) (o : HO) : Kp p H (upd H p o) := fun b u n h => by rw [upd_ne n]; exact h
theorem same_new {H : Hp} {p : Addr} {o : HO} (h : H p = none) : Same H (upd H p o) := fun b u e => by rw [upd_ne (ne_of_none e h)]; exact e
/-- a pot with n takes to come -/
def Pot (H : Hp) (p : Addr) (n : Nat) : Prop := ∃ g m c : Int, H p = some (.lst [.int g, .int m, .int c]) ∧ 0 ≤ g ∧ g < 10 ^ 180 ∧ 0 ≤ m ∧ m < 2 ^ 61 ∧ 0 ≤ c ∧ c + n ≤ 1000000
theorem Pot.less {H : Hp} {p : Addr} {n m : Nat} (h : Pot H p n) (l : m ≤ n) : Pot H p m := by
  obtain ⟨g, a, c, h1, h2, h3, h4, h5, h6, h7⟩ := h
  exact ⟨g, a, c, h1, h2, h3, h4, h5, h6, by omega⟩
theorem Pot.same {H H' : Hp} {p : Addr} {n : Nat} (h : Pot H p n) (s : Same H H') : Pot H' p n := by
  obtain ⟨g, a, c, h1, h2⟩ := h
  exact ⟨g, a, c, s _ _ h1, h2⟩
theorem Pot.lst {H : Hp} {p : Addr} {n : Nat} (h : Pot H p n) : ∃ xs, H p = some (.lst xs) := by
  obtain ⟨g, a, c, h1, h2⟩ := h
  exact ⟨_, h1⟩
section
variable {P : Program} {w : World} {K : PySem.W.Frag} {mg : Str → Option Value} {base : Heap}
/-! ### take -/
def spTake : Sp := fun vs H Q _ => ∃ (p : Addr) (z : Int) (n : Nat), vs = [.ref p, .int z] ∧ Pot H p (n + 1) ∧ 0 < z ∧ z ≤ 1000 ∧
  ∀ H' r, Kp p H H' → Pot H' p n → 0 ≤ r → r < z → Q (.int r) H'
theorem ok_take {f : Addr} {fd : FuncData} {k : Nat} (F : Fun K "_law_take" "_law_take" sTake f fd) : FnOk P w K mg base CX0 (k + 1) f fd ["_law_pot_here", "_law_size"] spTake := by
  refine F.ok scTake (fun vs H Q E h => ?_) (fun cdv A outer s H vs Q E hr h => ?_)
  · obtain ⟨p, z, n, rfl, _⟩ := h
    rfl
  · obtain ⟨p, z, n, rfl, hp, z0, z1, q⟩ := h
    obtain ⟨g, m, c, h1, g0, g1, m0, m1, c0, c1⟩ := hp
    refine ⟨_, pss_cons (ps_if (pt_cmpR op_gt (pe_ix ix_list (pv 0) pe_int (fun _ _ => rfl)) pe_int (nomark _))
        (pss_cons (ps_set (i := 2) scTake.nd rfl (.inl rfl) (pe_op op_mod (pe_ix ix_list (pv 0) pe_int (fun _ _ => rfl)) (pv 1)))
          (pss_cons (ps_asg (pe_op op_fdiv (pe_ix ix_list (pv 0) pe_int (fun _ _ => rfl)) (pv 1)) (pg_sub (pv 0) pe_int set_list))
            (pss_one (ps_ret (pv 2))))) pss_nil)
      (pss_cons (ps_asg (pe_op op_add (pe_ix ix_list (pv 0) pe_int (fun _ _ => rfl)) pe_int) (pg_sub (pv 0) pe_int set_list))
      (pss_cons (ps_set (i := 3) scTake.nd rfl (.inl rfl) (pe_ix ix_list (pe_lst (pa_cons pe_int (pa_cons pe_int (pa_cons pe_int (pa_cons pe_int (pa_cons pe_int pa_nil))))))
          (pe_op op_mod (pe_ix ix_list (pv 0) pe_int (fun _ _ => rfl)) pe_int) (fun _ _ => rfl)))
      (pss_cons (ps_set (i := 4) scTake.nd rfl (.inl rfl) (pe_op op_mod (pe_op op_pow (pe_op op_add (pe_op op_add (pe_ix ix_list (pv 0) pe_int (fun _ _ => rfl))
            (pe_op op_mul (pe_op op_mul pe_int (pe_ix ix_list (pv 0) pe_int (fun _ _ => rfl))) (pe_ix ix_list (pv 0) pe_int (fun _ _ => rfl)))) pe_int) pe_int) (pv 3)))
      (pss_one (ps_ret (pe_op op_mod (pe_op op_fdiv (pe_op op_mod (pe_op op_mul (pv 4) (pe_op op_add (pe_op op_mod (pv 4) pe_int)
            (pe_op op_mul pe_int (pe_ix ix_list (pv 0) pe_int (fun _ _ => rfl))))) pe_int) pe_int) (pv 1))))))), ?_⟩
    have hL : SqL K H p [.int g, .int m, .int c] := SqL.of h1
    refine ⟨.ref p, rfl, p, _, 0, .int g, rfl, rfl, hL, atI_nat (j := 0) rfl, _, _, rfl, rfl, _, rfl, ite2 (fun e => ?_) (fun e => ?_)⟩
    · refine ⟨.ref p, rfl, p, _, 0, .int g, rfl, rfl, hL, atI_nat (j := 0) rfl, .int z, rfl, g, z, rfl, rfl, z0, ?_⟩
      refine ⟨.ref p, rfl, p, _, 0, .int g, rfl, rfl, hL, atI_nat (j := 0) rfl, .int z, rfl, g, z, rfl, rfl, ⟨z0, by omega⟩, ?_⟩
      refine ⟨.ref p, rfl, p, _, 0, 0, rfl, rfl, h1, rfl, ?_⟩
      refine ⟨.int (g % z), rfl, ?_⟩
      refine q _ _ (Kp.upd p H _) ⟨g / z, m, c, upd_same, Int.ediv_nonneg g0 (by omega), ?_, m0, m1, c0, by omega⟩ (Int.emod_nonneg _ (by omega)) (Int.emod_lt_of_pos _ z0)
      exact Int.lt_of_le_of_lt (Int.ediv_le_self z g0) g1
    · -- pot[2] = pot[2] + 1
      refine ⟨.ref p, rfl, p, _, 2, .int c, rfl, rfl, hL, atI_nat (j := 2) rfl, c, 1, rfl, rfl, ?_⟩
      refine ⟨.ref p, rfl, p, _, 2, 2, rfl, rfl, h1, rfl, ?_⟩
      have h2 : upd H p (.lst ([V.int g, .int m, .int c].set 2 (.int (c + 1)))) p = some (.lst [.int g, .int m, .int (c + 1)]) := upd_same
      -- the prime
      refine ⟨Nat.le_of_lt (small1000 (by decide)), fun l hl => ?_⟩
      have ne : p ≠ l := fun e => by
        rw [← e, h2] at hl
        cases hl
      have h3 : upd (upd H p (.lst ([V.int g, .int m, .int c].set 2 (.int (c + 1))))) l (.lst [.int 2147483647, .int 2147483629, .int 2147483587, .int 2147483579, .int 2147483563]) p = some (.lst [.int g, .int m, .int (c + 1)]) := by
        rw [upd_ne ne]
        exact h2
      have hM : SqL K (upd (upd H p (.lst ([V.int g, .int m, .int c].set 2 (.int (c + 1))))) l (.lst [.int 2147483647, .int 2147483629, .int 2147483587, .int 2147483579, .int 2147483563])) p [.int g, .int m, .int (c + 1)] := SqL.of h3
      have hP : SqL K (upd (upd H p (.lst ([V.int g, .int m, .int c].set 2 (.int (c + 1))))) l (.lst [.int 2147483647, .int 2147483629, .int 2147483587, .int 2147483579, .int 2147483563])) l [.int 2147483647, .int 2147483629, .int 2147483587, .int 2147483579, .int 2147483563] := SqL.of upd_same
      have kp : Kp p H (upd (upd H p (.lst ([V.int g, .int m, .int c].set 2 (.int (c + 1))))) l (.lst [.int 2147483647, .int 2147483629, .int 2147483587, .int 2147483579, .int 2147483563])) := (Kp.upd p H _).trans (Kp.same (same_new hl))
      generalize upd (upd H p (.lst ([V.int g, .int m, .int c].set 2 (.int (c + 1))))) l (.lst [.int 2147483647, .int 2147483629, .int 2147483587, .int 2147483579, .int 2147483563]) = H2 at h3 hM hP kp ⊢
      have r0 : 0 ≤ (c + 1) % 5 := Int.emod_nonneg _ (by decide)
      have r1 : (c + 1) % 5 < 5 := Int.emod_lt_of_pos _ (by decide)
      obtain ⟨pr, hpr, p0, p1⟩ : ∃ pr : Int, atI [V.int 2147483647, .int 2147483629, .int 2147483587, .int 2147483579, .int 2147483563] ((c + 1) % 5) = some (.int pr) ∧ 0 < pr ∧ pr ≤ 2147483647 := by
        have cs : (c + 1) % 5 = 0 ∨ (c + 1) % 5 = 1 ∨ (c + 1) % 5 = 2 ∨ (c + 1) % 5 = 3 ∨ (c + 1) % 5 = 4 := by omega
        rcases cs with e | e | e | e | e <;> rw [e]
        · exact ⟨2147483647, atI_nat (j := 0) rfl, by decide, by decide⟩
        · exact ⟨2147483629, atI_nat (j := 1) rfl, by decide, by decide⟩
        · exact ⟨2147483587, atI_nat (j := 2) rfl, by decide, by decide⟩
        · exact ⟨2147483579, atI_nat (j := 3) rfl, by decide, by decide⟩
        · exact ⟨2147483563, atI_nat (j := 4) rfl, by decide, by decide⟩
      refine ⟨.ref p, rfl, p, _, 2, .int (c + 1), rfl, rfl, hM, atI_nat (j := 2) rfl, c + 1, 5, rfl, rfl, (show (0 : Int) < 5 by decide), ?_⟩
      refine ⟨l, _, _, .int pr, rfl, rfl, hP, hpr, ?_⟩
      -- mixed
      have b1 : 40009 * (c + 1) ≤ 40009 * 1000000 := by omega
      have b2 : 0 ≤ 40009 * (c + 1) := by omega
      have b3 : 0 ≤ 40009 * (c + 1) * (c + 1) := Int.mul_nonneg b2 (by omega)
      have b4 : 40009 * (c + 1) * (c + 1) ≤ (40009 * 1000000) * 1000000 := Int.mul_le_mul b1 (by omega) (by omega) (by decide)
      refine ⟨.ref p, rfl, p, _, 1, .int m, rfl, rfl, hM, atI_nat (j := 1) rfl, .ref p, rfl, p, _, 2, .int (c + 1), rfl, rfl, hM, atI_nat (j := 2) rfl, 40009, c + 1, rfl, rfl, .inl ⟨by decide, by decide⟩,
        .ref p, rfl, p, _, 2, .int (c + 1), rfl, rfl, hM, atI_nat (j := 2) rfl, _, c + 1, rfl, rfl, .inl ⟨by omega, by omega⟩, m, _, rfl, rfl, _, 31, rfl, rfl, _, 3, rfl, rfl, ⟨by decide, by decide, by omega⟩, .int pr, rfl, _, pr, rfl, rfl, p0, ?_⟩
      generalize (m + 40009 * (c + 1) * (c + 1) + 31) ^ (3 : Int).toNat = y
      have y0 : 0 ≤ y % pr := Int.emod_nonneg _ (by omega)
      have y1 : y % pr < pr := Int.emod_lt_of_pos _ p0
      have v0 : 0 ≤ y % pr % 10009 := Int.emod_nonneg _ (by decide)
      have v1 : y % pr % 10009 < 10009 := Int.emod_lt_of_pos _ (by decide)
      refine ⟨.int (y % pr), rfl, .int (y % pr), rfl, y % pr, 10009, rfl, rfl, (show (0 : Int) < 10009 by decide), .ref p, rfl, p, _, 2, .int (c + 1), rfl, rfl, hM, atI_nat (j := 2) rfl, 89, c + 1, rfl, rfl, .inl ⟨by decide, by decide⟩,
        _, _, rfl, rfl, y % pr, _, rfl, rfl, .inl ⟨by omega, by omega⟩, _, 2305843009213693907, rfl, rfl, (show (0 : Int) < 2305843009213693907 by decide), _, 89, rfl, rfl, ⟨by decide, by decide⟩, .int z, rfl, _, z, rfl, rfl, z0, ?_⟩
      exact q _ _ kp ⟨g, m, c + 1, h3, g0, g1, m0, m1, by omega, by omega⟩ (Int.emod_nonneg _ (by omega)) (Int.emod_lt_of_pos _ z0)
/-! ### pot -/
def spPot (K : PySem.W.Frag) : Sp := fun vs H Q _ => ∃ (a : Addr) (ns : List Int) (k : Nat), vs = [.ref a, .int k] ∧ SqL K H a (ns.map V.int) ∧ k ≤ 3 ∧
  ∀ H' p, Same H H' → H p = none → Pot H' p 1000000 → Q (.ref p) H'
theorem ok_pot {f : Addr} {fd : FuncData} {k : Nat} (F : Fun K "_law_pot" "_law_pot" sPot f fd) (ml : mg "len" = none) (ma : mg "abs" = none) :
    FnOk P w K mg base CX0 (k + 1) f fd ["_law_script", "_law_k"] (spPot K) := by
  refine F.ok scPot (fun vs H Q E h => ?_) (fun cdv A outer s H vs Q E hr h => ?_)
  · obtain ⟨a, ns, k, rfl, _⟩ := h
    rfl
  · obtain ⟨a, ns, k, rfl, hS, k3, q⟩ := h
    refine ⟨_, pss_cons (ps_set (i := 2) scPot.nd rfl (.inl rfl) (pe_ifExp (pt_cmpR op_lt (pv 1) (pe_callB call_len_seq (by rfl) ml PySem.boot_len (pa_cons (pv 0) pa_nil)) (nomark _))
          (pe_ix ix_list (pv 0) (pv 1) (fun _ _ => rfl)) (pe_op op_add (pe_op op_mul pe_int (pv 1)) pe_int)))
      (pss_cons (ps_set (i := 3) scPot.nd rfl (.inl rfl) (pe_ifExp (pt_cmpR op_ge (pe_callB call_abs (by rfl) ma (by decide +kernel) (pa_cons (pv 2) pa_nil)) (pe_op op_pow pe_int pe_int) (nomark _))
          (pe_op op_mod (pe_callB call_abs (by rfl) ma (by decide +kernel) (pa_cons (pv 2) pa_nil)) (pe_op op_powB (pe_op op_pow pe_int pe_int) pe_int)) pe_int))
      (pss_one (ps_ret (pe_lst (pa_cons (pv 3) (pa_cons (pe_op op_mod (pe_op op_add (pe_op op_add (pe_op op_mul (pe_op op_mod (pv 2) pe_int) pe_int)
          (pe_op op_mul (pe_op op_mul pe_int (pv 1)) (pv 1))) pe_int) pe_int) (pa_cons pe_int pa_nil))))))), ?_⟩
    have e60 : (10 : Int) ^ (60 : Int).toNat = 1000000000000000000000000000000000000000000000000000000000000 := by decide +kernel
    have e180 : ((10 : Int) ^ (60 : Int).toNat) ^ (3 : Int).toNat = 10 ^ 180 := by decide +kernel
    refine ⟨.int k, rfl, .ref a, rfl, a, _, rfl, .inl hS, _, _, rfl, rfl, _, rfl, ite2 (fun e => ?_) (fun e => ?_)⟩
    · have lt : k < ns.length := by
        have z := of_decide_eq_true e
        rw [List.length_map] at z
        omega
      refine ⟨.ref a, rfl, .int k, rfl, a, _, k, .int ns[k], rfl, rfl, hS, atI_nat (by rw [List.getElem?_map, List.getElem?_eq_getElem lt]; rfl), ?_⟩
      refine ⟨.int ns[k], rfl, ns[k], rfl, 10, 18, rfl, rfl, ⟨by decide, by decide, by decide⟩, _, _, rfl, rfl, _, rfl, ite2 (fun e => ?_) (fun e => ?_)⟩
      · refine ⟨.int ns[k], rfl, ns[k], rfl, 10, 60, rfl, rfl, ⟨by decide, by decide, by decide⟩, _, 3, rfl, rfl, ⟨by decide, by rw [e60]; decide +kernel⟩, _, _, rfl, rfl, by rw [e180]; exact (by decide +kernel : (0 : Int) < 10 ^ 180), ?_⟩
        rw [e180]
        have gr0 : 0 ≤ (if ns[k] < 0 then -ns[k] else ns[k]) % 10 ^ 180 := Int.emod_nonneg _ (by decide +kernel)
        have gr1 : (if ns[k] < 0 then -ns[k] else ns[k]) % 10 ^ 180 < 10 ^ 180 := Int.emod_lt_of_pos _ (by decide +kernel)
        have g9 : 0 ≤ ns[k] % 2305843009213693951 := Int.emod_nonneg _ (by decide)
        have g8 : ns[k] % 2305843009213693951 < 2305843009213693951 := Int.emod_lt_of_pos _ (by decide)
        refine ⟨_, rfl, .int ns[k], rfl, ns[k], 2305843009213693951, rfl, rfl, (show (0 : Int) < 2305843009213693951 by decide), _, 69621, rfl, rfl, .inl ⟨by omega, by omega⟩, .int k, rfl, 104729, k, rfl, rfl, .inl ⟨by decide, by decide⟩,
          .int k, rfl, _, k, rfl, rfl, .inl ⟨by omega, by omega⟩, _, _, rfl, rfl, _, 71, rfl, rfl, _, 2305843009213693921, rfl, rfl, (show (0 : Int) < 2305843009213693921 by decide), Nat.le_of_lt (small1000 (by show 3 ≤ 1000; decide)), fun p hp => ?_⟩
        exact q _ _ (same_new hp) hp ⟨_, (ns[k] % 2305843009213693951 * 69621 + 104729 * k * k + 71) % 2305843009213693921, 0, upd_same, gr0, gr1, Int.emod_nonneg _ (by decide), Int.lt_trans (Int.emod_lt_of_pos _ (by decide)) (by decide), by decide, by decide⟩
      · have gr0 : (0 : Int) ≤ 0 := by decide
        have gr1 : (0 : Int) < 10 ^ 180 := by decide +kernel
        have g9 : 0 ≤ ns[k] % 2305843009213693951 := Int.emod_nonneg _ (by decide)
        have g8 : ns[k] % 2305843009213693951 < 2305843009213693951 := Int.emod_lt_of_pos _ (by decide)
        refine ⟨_, rfl, .int ns[k], rfl, ns[k], 2305843009213693951, rfl, rfl, (show (0 : Int) < 2305843009213693951 by decide), _, 69621, rfl, rfl, .inl ⟨by omega, by omega⟩, .int k, rfl, 104729, k, rfl, rfl, .inl ⟨by decide, by decide⟩,
          .int k, rfl, _, k, rfl, rfl, .inl ⟨by omega, by omega⟩, _, _, rfl, rfl, _, 71, rfl, rfl, _, 2305843009213693921, rfl, rfl, (show (0 : Int) < 2305843009213693921 by decide), Nat.le_of_lt (small1000 (by show 3 ≤ 1000; decide)), fun p hp => ?_⟩
        exact q _ _ (same_new hp) hp ⟨_, (ns[k] % 2305843009213693951 * 69621 + 104729 * k * k + 71) % 2305843009213693921, 0, upd_same, gr0, gr1, Int.emod_nonneg _ (by decide), Int.lt_trans (Int.emod_lt_of_pos _ (by decide)) (by decide), by decide, by decide⟩
    · refine ⟨.int k, rfl, 17, k, rfl, rfl, .inl ⟨by decide, by decide⟩, _, 3, rfl, rfl, ?_⟩
      refine ⟨.int (17 * (k : Int) + 3), rfl, (17 * (k : Int) + 3), rfl, 10, 18, rfl, rfl, ⟨by decide, by decide, by decide⟩, _, _, rfl, rfl, _, rfl, ite2 (fun e => ?_) (fun e => ?_)⟩
      · refine ⟨.int (17 * (k : Int) + 3), rfl, (17 * (k : Int) + 3), rfl, 10, 60, rfl, rfl, ⟨by decide, by decide, by decide⟩, _, 3, rfl, rfl, ⟨by decide, by rw [e60]; decide +kernel⟩, _, _, rfl, rfl, by rw [e180]; exact (by decide +kernel : (0 : Int) < 10 ^ 180), ?_⟩
        rw [e180]
        have gr0 : 0 ≤ (if (17 * (k : Int) + 3) < 0 then -(17 * (k : Int) + 3) else (17 * (k : Int) + 3)) % 10 ^ 180 := Int.emod_nonneg _ (by decide +kernel)
        have gr1 : (if (17 * (k : Int) + 3) < 0 then -(17 * (k : Int) + 3) else (17 * (k : Int) + 3)) % 10 ^ 180 < 10 ^ 180 := Int.emod_lt_of_pos _ (by decide +kernel)
        have g9 : 0 ≤ (17 * (k : Int) + 3) % 2305843009213693951 := Int.emod_nonneg _ (by decide)
        have g8 : (17 * (k : Int) + 3) % 2305843009213693951 < 2305843009213693951 := Int.emod_lt_of_pos _ (by decide)
        refine ⟨_, rfl, .int (17 * (k : Int) + 3), rfl, (17 * (k : Int) + 3), 2305843009213693951, rfl, rfl, (show (0 : Int) < 2305843009213693951 by decide), _, 69621, rfl, rfl, .inl ⟨by omega, by omega⟩, .int k, rfl, 104729, k, rfl, rfl, .inl ⟨by decide, by decide⟩,
          .int k, rfl, _, k, rfl, rfl, .inl ⟨by omega, by omega⟩, _, _, rfl, rfl, _, 71, rfl, rfl, _, 2305843009213693921, rfl, rfl, (show (0 : Int) < 2305843009213693921 by decide), Nat.le_of_lt (small1000 (by show 3 ≤ 1000; decide)), fun p hp => ?_⟩
        exact q _ _ (same_new hp) hp ⟨_, ((17 * (k : Int) + 3) % 2305843009213693951 * 69621 + 104729 * k * k + 71) % 2305843009213693921, 0, upd_same, gr0, gr1, Int.emod_nonneg _ (by decide), Int.lt_trans (Int.emod_lt_of_pos _ (by decide)) (by decide), by decide, by decide⟩
      · have gr0 : (0 : Int) ≤ 0 := by decide
        have gr1 : (0 : Int) < 10 ^ 180 := by decide +kernel
        have g9 : 0 ≤ (17 * (k : Int) + 3) % 2305843009213693951 := Int.emod_nonneg _ (by decide)
        have g8 : (17 * (k : Int) + 3) % 2305843009213693951 < 2305843009213693951 := Int.emod_lt_of_pos _ (by decide)
        refine ⟨_, rfl, .int (17 * (k : Int) + 3), rfl, (17 * (k : Int) + 3), 2305843009213693951, rfl, rfl, (show (0 : Int) < 2305843009213693951 by decide), _, 69621, rfl, rfl, .inl ⟨by omega, by omega⟩, .int k, rfl, 104729, k, rfl, rfl, .inl ⟨by decide, by decide⟩,
          .int k, rfl, _, k, rfl, rfl, .inl ⟨by omega, by omega⟩, _, _, rfl, rfl, _, 71, rfl, rfl, _, 2305843009213693921, rfl, rfl, (show (0 : Int) < 2305843009213693921 by decide), Nat.le_of_lt (small1000 (by show 3 ≤ 1000; decide)), fun p hp => ?_⟩
        exact q _ _ (same_new hp) hp ⟨_, ((17 * (k : Int) + 3) % 2305843009213693951 * 69621 + 104729 * k * k + 71) % 2305843009213693921, 0, upd_same, gr0, gr1, Int.emod_nonneg _ (by decide), Int.lt_trans (Int.emod_lt_of_pos _ (by decide)) (by decide), by decide, by decide⟩
end
end SL

namespace SL
open PySem
/-! ### lists -/
theorem perm_of_sub {α : Type} [DecidableEq α] : ∀ (l r : List α), l.Nodup → (∀ x ∈ l, x ∈ r) → r.length ≤ l.length → l.Perm r
  | [], r, _, _, h => by
    have e : r = [] := List.eq_nil_of_length_eq_zero (Nat.le_zero.mp h)
    rw [e]
  | a :: l, r, nd, sub, h => by
    have ha : a ∈ r := sub a List.mem_cons_self
    have p := List.perm_cons_erase ha
    have len : (r.erase a).length = r.length - 1 := List.length_erase_of_mem ha
    rw [List.nodup_cons] at nd
    have ih := perm_of_sub l (r.erase a) nd.2 (fun x hx => (List.mem_erase_of_ne (fun (e : x = a) => nd.1 (by rw [← e]; exact hx))).mpr (sub x (List.mem_cons_of_mem _ hx))) (by
      rw [len]
      rw [List.length_cons] at h
      omega)
    exact (ih.cons a).trans p.symm
theorem len_of_sub {α : Type} [DecidableEq α] : ∀ (l r : List α), l.Nodup → (∀ x ∈ l, x ∈ r) → l.length ≤ r.length
  | [], r, _, _ => Nat.zero_le _
  | a :: l, r, nd, sub => by
    have ha : a ∈ r := sub a List.mem_cons_self
    have len : (r.erase a).length = r.length - 1 := List.length_erase_of_mem ha
    rw [List.nodup_cons] at nd
    have ih := len_of_sub l (r.erase a) nd.2 (fun x hx => (List.mem_erase_of_ne (fun (e : x = a) => nd.1 (by rw [← e]; exact hx))).mpr (sub x (List.mem_cons_of_mem _ hx)))
    have pos : 0 < r.length := List.length_pos_of_mem ha
    rw [List.length_cons]
    omega
/-- the slots -/
def R (n : Nat) : List Int := (List.range n).map fun (i : Nat) => (i : Int)
theorem R_len (n : Nat) : (R n).length = n := by simp [R]
theorem R_mem {n : Nat} {x : Int} : x ∈ R n ↔ 0 ≤ x ∧ x < n := by
  unfold R
  rw [List.mem_map]
  constructor
  · rintro ⟨i, hi, rfl⟩
    have := List.mem_range.mp hi
    omega
  · rintro ⟨h0, h1⟩
    exact ⟨x.toNat, List.mem_range.mpr (by omega), by omega⟩
theorem R_nodup (n : Nat) : (R n).Nodup := by
  unfold R
  rw [List.nodup_iff_pairwise_ne, List.pairwise_map]
  exact (List.nodup_range (n := n)).imp (fun h e => h (by omega))
theorem R_rising (n : Nat) : (R n).Pairwise (· ≤ ·) := by
  unfold R
  rw [List.pairwise_map]
  exact (List.pairwise_lt_range (n := n)).imp (fun h => by omega)
/-- by the set: as many as there are, and no more of them -/
theorem probe_by_set {n : Nat} {ns ks : List Int} (nd : ks.Nodup) (mem : ∀ k, k ∈ ks ↔ k ∈ ns) (inR : ∀ x ∈ ns, x ∈ R n) : (ns.length = n ∧ ks.length = n) ↔ ns.Perm (R n) := by
  constructor
  · rintro ⟨h1, h2⟩
    have p : ks.Perm (R n) := perm_of_sub ks (R n) nd (fun x hx => inR x ((mem x).mp hx)) (by rw [R_len]; omega)
    refine (perm_of_sub (R n) ns (R_nodup n) (fun x hx => (mem x).mp (p.mem_iff.mpr hx)) (by rw [R_len]; omega)).symm
  · intro p
    have h1 : ns.length = n := by rw [p.length_eq, R_len]
    refine ⟨h1, ?_⟩
    have a := len_of_sub ks (R n) nd fun x hx => inR x ((mem x).mp hx)
    have b := len_of_sub (R n) ks (R_nodup n) fun x hx => (mem x).mpr (p.mem_iff.mpr hx)
    rw [R_len] at a b
    omega
/-- by sorting -/
theorem sorted_one {a b : List Int} (p : a.Perm b) (ha : a.Pairwise (· ≤ ·)) (hb : b.Pairwise (· ≤ ·)) : a = b :=
  p.eq_of_pairwise (fun x y _ _ h1 h2 => Int.le_antisymm h1 h2) ha hb
theorem probe_by_sort {n : Nat} {ns out : List Int} (p : out.Perm ns) (r : out.Pairwise (· ≤ ·)) : out = R n ↔ ns.Perm (R n) := by
  constructor
  · intro e
    rw [← e]
    exact p.symm
  · intro q
    exact sorted_one (p.trans q) r (R_rising n)
/-- in a row, round -/
def lineL (n : Nat) (b : Int) : List Int := (List.range n).map fun (i : Nat) => (b + i) % n
theorem line_perm {n : Nat} {b : Int} (hn : 0 < n) : (lineL n b).Perm (R n) := by
  refine perm_of_sub _ _ ?_ (fun x hx => ?_) (by rw [R_len]; simp [lineL])
  · unfold lineL
    rw [List.nodup_iff_pairwise_ne, List.pairwise_map]
    refine (List.pairwise_lt_range (n := n)).imp_of_mem (fun {i j} hi hj h e => ?_)
    have hi := List.mem_range.mp hi
    have hj := List.mem_range.mp hj
    have z : ((b + j) - (b + i)) % (n : Int) = 0 := by rw [Int.sub_emod, ← e, Int.sub_self, Int.zero_emod]
    have d := Int.emod_emod_of_dvd
    have dv : (n : Int) ∣ ((b + j) - (b + i)) := Int.dvd_of_emod_eq_zero z
    have l := Int.le_of_dvd (by omega) dv
    omega
  · unfold lineL at hx
    rw [List.mem_map] at hx
    obtain ⟨i, _, rfl⟩ := hx
    exact R_mem.mpr ⟨Int.emod_nonneg _ (by omega), Int.emod_lt_of_pos _ (by omega)⟩
end SL

namespace SL
open PySem PySem.Spec PyProof.Rows L2
theorem scMixed : FnScope ["_law_pot_here", "_law_some", "_law_left", "_law_found"] ["_law_pot_here", "_law_some"] (defScope sMixed) := ⟨rfl, rfl, rfl, by decide +kernel, rfl, by decide +kernel, by decide +kernel⟩
theorem scLine : FnScope ["_law_size", "_law_begin", "_law_at"] ["_law_size", "_law_begin"] (defScope sLine) := ⟨rfl, rfl, rfl, by decide +kernel, rfl, by decide +kernel, by decide +kernel⟩
theorem scProbe : FnScope ["_law_pot_here", "_law_size"] ["_law_pot_here", "_law_size"] (defScope sProbe) := ⟨rfl, rfl, rfl, by decide +kernel, rfl, by decide +kernel, by decide +kernel⟩
section
variable {P : Program} {w : World} {K : PySem.W.Frag} {mg : Str → Option Value} {base : Heap}
/-! ### pick -/
def spPick : Sp := fun vs H Q _ => ∃ (p l : Addr) (xs : List V) (n : Nat), vs = [.ref p, .ref l] ∧ Pot H p (n + 1) ∧ H l = some (.lst xs) ∧ l ≠ p ∧ 0 < xs.length ∧ xs.length ≤ 1000 ∧
  ∀ H' (i : Nat) x, Kp p H H' → Pot H' p n → xs[i]? = some x → Q x H'
theorem ok_pick {f fT : Addr} {fd fdT : FuncData} {k : Nat} (F : Fun K "_law_pick" "_law_pick" sPick f fd) (FT : Fun K "_law_take" "_law_take" sTake fT fdT) (bT : Binds K fdT ["_law_pot_here", "_law_size"] []) (gT : mg "_law_take" = some (.ref fT))
    (ml : mg "len" = none) : FnOk P w K mg base CX0 (k + 2) f fd ["_law_pot_here", "_law_some"] spPick := by
  have GT : FnOk P w K mg base CX0 (k + 1) fT fdT ["_law_pot_here", "_law_size"] spTake := ok_take FT
  refine F.ok scPick (fun vs H Q E h => ?_) (fun cdv A outer s H vs Q E hr h => ?_)
  · obtain ⟨p, l, xs, n, rfl, _⟩ := h
    rfl
  · obtain ⟨p, l, xs, n, rfl, hp, hl, ne, x0, x1, q⟩ := h
    refine ⟨_, pss_one (ps_ret (pe_ix ix_list (pv 1) (pe_call GT hr (by rfl) gT FT.kp bT .nil pass0 (pa_cons (pv 0) (pa_cons (pe_callB call_len_seq (by rfl) ml PySem.boot_len (pa_cons (pv 1) pa_nil)) pa_nil))) (fun _ _ => rfl))), ?_⟩
    refine ⟨.ref l, rfl, .ref p, rfl, .ref l, rfl, l, xs, rfl, .inl (SqL.of hl), p, _, n, rfl, hp, by omega, by omega, fun H' r kp hp' r0 r1 => ?_⟩
    have hi : r.toNat < xs.length := by omega
    refine ⟨l, xs, r, xs[r.toNat], rfl, rfl, SqL.of (kp _ _ ne hl), at_of (j := r.toNat) (by omega) (List.getElem?_eq_getElem hi), ?_⟩
    exact q H' r.toNat _ kp hp' (List.getElem?_eq_getElem hi)
/-! ### mixed -/
def spMixed : Sp := fun vs H Q _ => ∃ (p l : Addr) (ns : List Int) (n : Nat), vs = [.ref p, .ref l] ∧ Pot H p (n + ns.length) ∧ H l = some (.lst (ns.map V.int)) ∧ ns.length ≤ 100 ∧
  ∀ (H' : Hp) (t : Addr) (out : List Int), Kp p H H' → Pot H' p n → H t = none → H' t = some (.lst (out.map V.int)) → out.Perm ns → Q (.ref t) H'
def lenAt (H : Hp) : Option (Option V) → Nat
  | some (some (.ref a)) => match H a with
    | some (.lst xs) => xs.length
    | _ => 0
  | _ => 0
theorem lenAt_of {H : Hp} {a : Addr} {xs : List V} (h : H a = some (.lst xs)) : lenAt H (some (some (.ref a))) = xs.length := by
  show (match H a with
    | some (.lst xs) => xs.length
    | _ => 0) = xs.length
  rw [h]
theorem take_out : ∀ (l : List Int) (i : Nat) (h : i < l.length), (l[i] :: l.eraseIdx i).Perm l
  | [], i, h => by simp at h
  | a :: l, 0, h => List.Perm.refl _
  | a :: l, i + 1, h => by
    have h' : i < l.length := by simpa using h
    have ih := take_out l i h'
    show (l[i] :: a :: l.eraseIdx i).Perm (a :: l)
    exact (List.Perm.swap a _ _).trans (ih.cons a)
theorem shaped_ints (ns : List Int) : SeqAt.shaped (.list (ns.map PyData.int)) = true := by
  have lay : PyData.canLayAll0 (ns.map PyData.int) = true := by
    induction ns with
    | nil => simp [PyData.canLayAll0]
    | cons a r ih => simp [PyData.canLayAll0, PyData.canLay0, ih]
  have dep : PyData.depthAll (ns.map PyData.int) ≤ 1 := by
    induction ns with
    | nil => simp [PyData.depthAll]
    | cons a r ih =>
      have ih' := ih (by
        simp only [List.map_cons, PyData.canLayAll0, Bool.and_eq_true] at lay
        exact lay.2)
      simp only [List.map_cons, PyData.depthAll, PyData.depth]
      omega
  show ((PyData.list (ns.map PyData.int)).canLay0 && decide ((PyData.list (ns.map PyData.int)).depth ≤ 64)) = true
  rw [Bool.and_eq_true]
  refine ⟨by simp only [PyData.canLay0]; exact lay, decide_eq_true ?_⟩
  simp only [PyData.depth]
  omega
theorem dp_ints (K : PySem.W.Frag) (H : Hp) : ∀ ns : List Int, DpAll K H (ns.map V.int) (ns.map PyData.int)
  | [] => .nil
  | n :: ns => .cons (.int n) (dp_ints K H ns)
theorem ok_mixed {f fT : Addr} {fd fdT : FuncData} {k : Nat} (F : Fun K "_law_mixed" "_law_mixed" sMixed f fd) (FT : Fun K "_law_take" "_law_take" sTake fT fdT) (bT : Binds K fdT ["_law_pot_here", "_law_size"] []) (gT : mg "_law_take" = some (.ref fT))
    (ml : mg "len" = none) (mli : mg "list" = none) : FnOk P w K mg base CX0 (k + 2) f fd ["_law_pot_here", "_law_some"] spMixed := by
  have GT : FnOk P w K mg base CX0 (k + 1) fT fdT ["_law_pot_here", "_law_size"] spTake := ok_take FT
  refine F.ok scMixed (fun vs H Q E h => ?_) (fun cdv A outer s H vs Q E hr h => ?_)
  · obtain ⟨p, l, ns, n, rfl, _⟩ := h
    rfl
  · obtain ⟨p, l, ns, n, rfl, hp, hl, few, q⟩ := h
    refine ⟨_, pss_cons (ps_par (i := 2) (j := 3) (by rfl) scMixed.nd rfl rfl (by decide) rfl rfl (pa_cons (pe_callTy call_list_of (by rfl) mli (by decide +kernel) (pa_cons (pv 1) pa_nil)) (pa_cons (pe_lst pa_nil) pa_nil)) (by rfl))
      (pss_cons (ps_while PassesOwn.never (pt_cmpR (op_neD hr.units) (pv 2) (pe_lst pa_nil) (nomark _))
        (pss_one (ps_expr (pe_bm PySem.F.plainAttrs_list PySem.F.slot_list_append PySem.F.type_list_append mt_append (pv 3)
          (pa_cons (pe_bm PySem.F.plainAttrs_list PySem.F.slot_list_pop PySem.F.type_list_pop mt_popAt (pv 2)
            (pa_cons (pe_call GT hr (by rfl) gT FT.kp bT .nil pass0 (pa_cons (pv 0) (pa_cons (pe_callB call_len_seq (by rfl) ml PySem.boot_len (pa_cons (pv 2) pa_nil)) pa_nil))) pa_nil)) pa_nil)))))
      (pss_one (ps_ret (pv 3)))), ?_⟩
    refine ⟨.ref l, rfl, l, _, rfl, .inl (SqL.of hl), fun a na => ?_⟩
    refine ⟨Nat.zero_le _, fun b nb => ?_⟩
    refine ⟨_, _, rfl, ?_⟩
    have nba : a ≠ b := fun e => by
      rw [← e, upd_same] at nb
      cases nb
    have kb : H b = none := (same_new na).free nb
    refine while_by (fun σ G => ∃ left found : List Int, σ = [some (.ref p), some (.ref l), some (.ref a), some (.ref b)] ∧ G a = some (.lst (left.map V.int)) ∧ G b = some (.lst (found.map V.int)) ∧
        (found ++ left).Perm ns ∧ Pot G p (n + left.length) ∧ Kp p H G) (fun σ G => lenAt G σ[2]?) ?_ (fun σ G inv => ?_) (fun σ G Q1 Q2 mono h => ?_)
    · refine ⟨ns, [], rfl, ?_, upd_same, List.Perm.refl _, (hp.same (same_new na)).same (same_new nb), Kp.same ((same_new na).trans (same_new nb))⟩
      rw [upd_ne nba, upd_same]
    · obtain ⟨left, found, rfl, ha, hb, perm, pot, kp⟩ := inv
      have apa : a ≠ p := fun e => by
        obtain ⟨g, m, c, hpp, _⟩ := hp
        rw [e, hpp] at na
        cases na
      have bpb : b ≠ p := fun e => by
        obtain ⟨g, m, c, hpp, _⟩ := hp
        rw [e, hpp] at kb
        cases kb
      refine ⟨.ref a, rfl, Nat.zero_le _, fun t nt => ?_⟩
      have st : Same G (upd G t (.lst [])) := same_new nt
      refine ⟨_, _, .lst (SqL.of (st _ _ ha)) (dp_ints K _ left), .lst (SqL.of upd_same) .nil, shaped_ints left, shaped_ints [], _, rfl, ?_⟩
      cases left with
      | nil =>
        show if (!PyData.eqv (.list []) (.list [])) = true then _ else _
        rw [show PyData.eqv (.list []) (.list []) = true by simp [PyData.eqv, PyData.eqvAll]]
        refine iteF ?_
        refine ⟨.ref b, rfl, ?_⟩
        refine q _ b found (kp.trans (Kp.same st)) ((pot.same st).less (by simp)) kb (st _ _ hb) ?_
        rw [List.append_nil] at perm
        exact perm
      | cons z rest =>
        show if (!PyData.eqv (.list (.int z :: rest.map PyData.int)) (.list [])) = true then _ else _
        rw [show PyData.eqv (.list (.int z :: rest.map PyData.int)) (.list []) = false by simp [PyData.eqv, PyData.eqvAll]]
        refine iteT ?_
        have len : (found ++ z :: rest).length = ns.length := perm.length_eq
        rw [List.length_append, List.length_cons] at len
        refine ⟨.ref b, rfl, .inl ⟨rfl, _, SqL.of (st _ _ hb)⟩, .ref a, rfl, .inl ⟨rfl, _, SqL.of (st _ _ ha)⟩, .ref p, rfl, .ref a, rfl, a, _, rfl, .inl (SqL.of (st _ _ ha)), p, _, n + rest.length, rfl, (pot.same st).less (by simp; omega), ?_, ?_, fun G2 r kp2 pot2 r0 r1 => ?_⟩
        · rw [List.length_map, List.length_cons]; omega
        · rw [List.length_map, List.length_cons]; omega
        have ha2 := kp2 _ _ apa (st _ _ ha)
        have hb2 := kp2 _ _ bpb (st _ _ hb)
        rw [List.length_map] at r1
        have hi : r.toNat < (z :: rest).length := by omega
        have gi : ((z :: rest).map V.int)[r.toNat]? = some (.int (z :: rest)[r.toNat]) := by
          rw [List.getElem?_map, List.getElem?_eq_getElem hi]
          rfl
        refine ⟨a, _, r, r.toNat, _, rfl, rfl, ha2, by omega, by simp only [List.length_cons] at r1; omega, ?_, gi, ?_⟩
        · rw [List.length_map]
          exact seqIndex_of r0 r1
        · have ha3 : upd G2 a (.lst (((z :: rest).map V.int).eraseIdx r.toNat)) a = some (.lst (((z :: rest).eraseIdx r.toNat).map V.int)) := by
            rw [upd_same, erase_mapI]
          have hb3 : upd G2 a (.lst (((z :: rest).map V.int).eraseIdx r.toNat)) b = some (.lst (found.map V.int)) := by
            rw [upd_ne nba.symm]
            exact hb2
          refine ⟨b, _, _, rfl, rfl, hb3, ?_, ?_⟩
          · rw [List.length_map]
            exact small1000 (by omega)
          have lenE : ((z :: rest).eraseIdx r.toNat).length = rest.length := by
            rw [List.length_eraseIdx_of_lt hi, List.length_cons]
            omega
          refine ⟨⟨(z :: rest).eraseIdx r.toNat, found ++ [(z :: rest)[r.toNat]], rfl, ?_, ?_, ?_, ?_, ?_⟩, ?_⟩
          · rw [upd_ne nba]
            exact ha3
          · rw [upd_same, List.map_append]
            rfl
          · refine List.Perm.trans ?_ perm
            rw [List.append_assoc]
            refine List.Perm.append_left found ?_
            exact take_out _ _ hi
          · obtain ⟨g, m, c, z1, z2⟩ := pot2
            rw [lenE]
            refine ⟨g, m, c, ?_, z2⟩
            rw [upd_ne bpb.symm, upd_ne apa.symm]
            exact z1
          · intro d o nd hd
            have da : d ≠ a := ne_of_none hd na
            have db : d ≠ b := ne_of_none hd kb
            rw [upd_ne db, upd_ne da]
            exact kp2 _ _ nd (st _ _ (kp _ _ nd hd))
          · show lenAt _ (some (some (.ref a))) < lenAt _ (some (some (.ref a)))
            rw [lenAt_of ((upd_ne nba).trans ha3), lenAt_of ha]
            rw [List.length_map, List.length_map, lenE, List.length_cons]
            omega
    · obtain ⟨v, e, z0, f⟩ := h
      refine ⟨v, e, z0, fun t nt => ?_⟩
      obtain ⟨d1, d2, a1, a2, a3, a4, kk, ek, qq⟩ := f t nt
      exact ⟨d1, d2, a1, a2, a3, a4, kk, ek, mono _ _ qq⟩
/-! ### line -/
def spLine : Sp := fun vs H Q _ => ∃ (n : Nat) (b : Int), vs = [.int n, .int b] ∧ 0 < n ∧ n ≤ 100 ∧
  ∀ (H' : Hp) (t : Addr), Same H H' → H t = none → H' t = some (.tup ((lineL n b).map V.int)) → Q (.ref t) H'
theorem ok_line {f : Addr} {fd : FuncData} {k : Nat} (F : Fun K "_law_line" "_law_line" sLine f fd) (mt : mg "tuple" = none) (mr : mg "range" = none) :
    FnOk P w K mg base CX0 (k + 1) f fd ["_law_size", "_law_begin"] spLine := by
  refine F.ok scLine (fun vs H Q E h => ?_) (fun cdv A outer s H vs Q E hr h => ?_)
  · obtain ⟨n, b, rfl, _⟩ := h
    rfl
  · obtain ⟨n, b, rfl, n0, n1, q⟩ := h
    refine ⟨_, pss_one (ps_ret (pe_callTy call_tuple_of (by rfl) mt (by decide +kernel) (pa_cons (pe_lc (own := [("_law_at", 2)]) (g := gName 2) (tt := tYes) rfl scLine.nd (pi_range1 rfl mr (pa_cons (pv 0) pa_nil))
      (blkOk_by (own := [("_law_at", 2)]) (N := ["_law_size", "_law_begin", "_law_at"]) (sc := defScope sLine) (by decide +kernel)) (fun _ _ _ _ _ => pg_name (i := 2) scLine.nd rfl (Or.inl rfl)) (fun _ _ _ _ _ => pts_nil)
      (fun _ _ _ _ _ => pe_op op_mod (pe_op op_add (pv 1) (pv 2)) (pv 0))) pa_nil))), ?_⟩
    refine ⟨.int n, rfl, n, rfl, by omega, by omega, fun D nD => ?_⟩
    have e0 : ((n : Int)).toNat = n := by omega
    refine lc_range (lo := 0) (n := (n : Int).toNat) (fun i G => Same H G ∧ G D = some (.lst (((lineL n b).take i).map V.int))) ⟨same_new nD, upd_same⟩ ?_ ?_
    · intro i G hi ⟨sm, gd⟩
      refine ⟨rfl, _, rfl, _, rfl, b, _, rfl, rfl, .int n, rfl, _, n, rfl, rfl, (show (0 : Int) < n by omega), _, gd, ?_, ?_⟩
      · rw [List.length_map, List.length_take]
        exact small1000 (by omega)
      · refine ⟨fun d o hd => ?_, ?_⟩
        · rw [upd_ne (ne_of_none hd nD)]
          exact sm _ _ hd
        · have lt : i < n := by omega
          have gi : (lineL n b)[i]? = some ((b + i) % n) := by
            unfold lineL
            rw [List.getElem?_map, List.getElem?_range lt]
            rfl
          rw [upd_same, List.take_add_one, gi, List.map_append]
          show some (HO.lst (_ ++ [V.int ((b + (0 + (i : Int))) % n)])) = _
          rw [Int.zero_add]
          rfl
    · intro G ⟨sm, gd⟩
      refine ⟨D, _, rfl, .inl ⟨SqL.of gd, fun t nt => ?_⟩⟩
      refine q _ t (sm.trans (same_new nt)) (sm.free nt) ?_
      rw [upd_same, List.take_of_length_le]
      simp [lineL]
end
end SL

namespace SL
open PySem PySem.Spec PyProof.Rows L2
theorem rgV_R (n : Nat) : rgV 0 n = (R n).map V.int := by
  unfold rgV R
  rw [List.map_map]
  have e : ((n : Int) - 0).toNat = n := by omega
  rw [e]
  refine List.map_congr_left fun i _ => ?_
  show V.int (0 + (i : Int)) = V.int i
  rw [Int.zero_add]
section
variable {P : Program} {w : World} {K : PySem.W.Frag} {mg : Str → Option Value} {base : Heap}
def spProbe : Sp := fun vs H Q _ => ∃ (p : Addr) (z n : Nat), vs = [.ref p, .int z] ∧ Pot H p (n + 70) ∧ 0 < z ∧ z ≤ 64 ∧
  ∀ (H' : Hp) (t : Addr) (ns : List Int), Kp p H H' → Pot H' p n → H t = none → H' t = some (.tup (ns.map V.int)) → ns.Perm (R z) → Q (.ref t) H'
theorem ok_probe {f fT fM fL : Addr} {fd fdT fdM fdL : FuncData} {k : Nat} (F : Fun K "_law_probe" "_law_probe" sProbe f fd) (FT : Fun K "_law_take" "_law_take" sTake fT fdT) (bT : Binds K fdT ["_law_pot_here", "_law_size"] []) (gT : mg "_law_take" = some (.ref fT))
    (FM : Fun K "_law_mixed" "_law_mixed" sMixed fM fdM) (bM : Binds K fdM ["_law_pot_here", "_law_some"] []) (gM : mg "_law_mixed" = some (.ref fM))
    (FL : Fun K "_law_line" "_law_line" sLine fL fdL) (bL : Binds K fdL ["_law_size", "_law_begin"] []) (gL : mg "_law_line" = some (.ref fL))
    (ml : mg "len" = none) (mli : mg "list" = none) (mt : mg "tuple" = none) (mr : mg "range" = none) : FnOk P w K mg base CX0 (k + 3) f fd ["_law_pot_here", "_law_size"] spProbe := by
  have GT : FnOk P w K mg base CX0 (k + 1) fT fdT ["_law_pot_here", "_law_size"] spTake := ok_take FT
  have GM : FnOk P w K mg base CX0 (k + 2) fM fdM ["_law_pot_here", "_law_some"] spMixed := ok_mixed FM FT bT gT ml mli
  have GL : FnOk P w K mg base CX0 (k + 1) fL fdL ["_law_size", "_law_begin"] spLine := ok_line FL mt mr
  refine F.ok scProbe (fun vs H Q E h => ?_) (fun cdv A outer s H vs Q E hr h => ?_)
  · obtain ⟨p, z, n, rfl, _⟩ := h
    rfl
  · obtain ⟨p, z, n, rfl, hp, z0, z1, q⟩ := h
    refine ⟨_, pss_cons (ps_if (pt_cmpR op_eq (pe_call GT (hr.mono (by omega)) (by rfl) gT FT.kp bT .nil pass0 (pa_cons (pv 0) (pa_cons pe_int pa_nil))) pe_int (nomark _))
        (pss_one (ps_ret (pe_call GL (hr.mono (by omega)) (by rfl) gL FL.kp bL .nil pass0 (pa_cons (pv 1) (pa_cons (pe_call GT (hr.mono (by omega)) (by rfl) gT FT.kp bT .nil pass0 (pa_cons (pv 0) (pa_cons (pv 1) pa_nil))) pa_nil))))) pss_nil)
      (pss_one (ps_ret (pe_callTy call_tuple_of (by rfl) mt (by decide +kernel) (pa_cons (pe_call GM hr (by rfl) gM FM.kp bM .nil pass0 (pa_cons (pv 0) (pa_cons (pe_listRg rfl (by rfl) mli (prg_1 (by rfl) mr (pv 1))) pa_nil))) pa_nil)))), ?_⟩
    refine ⟨.ref p, rfl, p, 3, n + 69, rfl, hp, by decide, by decide, fun H1 r kp1 hp1 r0 r1 => ?_⟩
    refine ⟨rfl, _, rfl, ite2 (fun e => ?_) (fun e => ?_)⟩
    · refine ⟨.int z, rfl, .ref p, rfl, .int z, rfl, p, z, n + 68, rfl, hp1, by omega, by omega, fun H2 b kp2 hp2 b0 b1 => ?_⟩
      refine ⟨z, b, rfl, z0, by omega, fun H3 t sm nt ht => ?_⟩
      have kp : Kp p H H3 := (kp1.trans kp2).trans (Kp.same sm)
      refine q H3 t _ kp ((hp2.same sm).less (by omega)) ?_ ht (line_perm z0)
      cases hh : H t with
      | none => rfl
      | some o =>
        by_cases etp : t = p
        · obtain ⟨xs, hx⟩ := hp2.lst
          rw [etp, hx] at nt
          cases nt
        · rw [(kp1.trans kp2) _ _ etp hh] at nt
          cases nt
    · refine ⟨.ref p, rfl, .int z, rfl, z, rfl, ?_, fun l nl => ?_⟩
      · exact RgOk.of_le (by omega) (by omega) (by omega) (by omega)
      · rw [rgV_R]
        have s1 : Same H1 (upd H1 l (.lst ((R z).map V.int))) := same_new nl
        refine ⟨p, l, R z, n, rfl, (hp1.same s1).less (by rw [R_len]; omega), upd_same, by rw [R_len]; omega, fun H2 t out kp2 hp2 nt ht perm => ?_⟩
        refine ⟨t, _, rfl, .inl ⟨SqL.of ht, fun u nu => ?_⟩⟩
        have kp : Kp p H (upd H2 u (.tup (out.map V.int))) := ((kp1.trans (Kp.same s1)).trans kp2).trans (Kp.same (same_new nu))
        refine q _ u out kp (hp2.same (same_new nu)) ?_ upd_same perm
        cases hh : H u with
        | none => rfl
        | some o =>
          by_cases etp : u = p
          · obtain ⟨xs, hx⟩ := hp2.lst
            rw [etp, hx] at nu
            cases nu
          · rw [((kp1.trans (Kp.same s1)).trans kp2) _ _ etp hh] at nu
            cases nu
end
end SL

namespace SL
open PySem PySem.Spec PyProof.Rows L2
/-! ### data that a tuple may hold -/
mutual
inductive Dt (H : Hp) : V → PyData → Prop
  | non : Dt H .non .none
  | bl (b : Bool) : Dt H (.bl b) (.bool b)
  | int (i : Int) : Dt H (.int i) (.int i)
  | str (x : Str) : Dt H (.str x) (.str x)
  | tup {a : Addr} {xs : List V} {ds : List PyData} : H a = some (.tup xs) → DtAll H xs ds → Dt H (.ref a) (.tuple ds)
inductive DtAll (H : Hp) : List V → List PyData → Prop
  | nil : DtAll H [] []
  | cons {v : V} {vs : List V} {d : PyData} {ds : List PyData} : Dt H v d → DtAll H vs ds → DtAll H (v :: vs) (d :: ds)
end
mutual
theorem Dt.dp {K : PySem.W.Frag} {H : Hp} : ∀ {v : V} {d : PyData}, Dt H v d → Dp K H v d
  | _, _, .non => .non
  | _, _, .bl b => .bl b
  | _, _, .int i => .int i
  | _, _, .str x => .str x
  | _, _, .tup h a => .tup (SqT.of h) a.dp
theorem DtAll.dp {K : PySem.W.Frag} {H : Hp} : ∀ {v : List V} {d : List PyData}, DtAll H v d → DpAll K H v d
  | _, _, .nil => .nil
  | _, _, .cons h t => .cons h.dp t.dp
end
mutual
theorem Dt.plain {H : Hp} : ∀ {v : V} {d : PyData}, Dt H v d → d.hasDict = false
  | _, _, .non => by simp [PyData.hasDict]
  | _, _, .bl b => by simp [PyData.hasDict]
  | _, _, .int i => by simp [PyData.hasDict]
  | _, _, .str x => by simp [PyData.hasDict]
  | _, _, .tup h a => by
    have := a.plain
    simpa [PyData.hasDict] using this
theorem DtAll.plain {H : Hp} : ∀ {v : List V} {d : List PyData}, DtAll H v d → PyData.hasDictAll d = false
  | _, _, .nil => by simp [PyData.hasDictAll]
  | _, _, .cons h t => by
    have h1 := h.plain
    have h2 := t.plain
    simp [PyData.hasDictAll, h1, h2]
end
/-- the tuples stand as they were -/
def Tk (H H' : Hp) : Prop := ∀ b xs, H b = some (.tup xs) → H' b = some (.tup xs)
theorem Same.tk {H H' : Hp} (s : Same H H') : Tk H H' := fun b xs h => s _ _ h
theorem Kp.tk {p : Addr} {H H' : Hp} {xs : List V} (k : Kp p H H') (h : H p = some (.lst xs)) : Tk H H' := fun b ys e => by
  refine k _ _ (fun z => ?_) e
  rw [z, h] at e
  cases e
mutual
theorem Dt.keep {H H' : Hp} (k : Tk H H') : ∀ {v : V} {d : PyData}, Dt H v d → Dt H' v d
  | _, _, .non => .non
  | _, _, .bl b => .bl b
  | _, _, .int i => .int i
  | _, _, .str x => .str x
  | _, _, .tup h a => .tup (k _ _ h) (a.keep k)
theorem DtAll.keep {H H' : Hp} (k : Tk H H') : ∀ {v : List V} {d : List PyData}, DtAll H v d → DtAll H' v d
  | _, _, .nil => .nil
  | _, _, .cons h t => .cons (h.keep k) (t.keep k)
end
theorem DtAll.len {H : Hp} : ∀ {v : List V} {d : List PyData}, DtAll H v d → v.length = d.length
  | _, _, .nil => rfl
  | _, _, .cons h t => by rw [List.length_cons, List.length_cons, t.len]
theorem DtAll.get {H : Hp} : ∀ {v : List V} {d : List PyData}, DtAll H v d → ∀ (i : Nat) (x : V), v[i]? = some x → ∃ y, d[i]? = some y ∧ Dt H x y
  | _, _, .nil, i, x, e => by simp at e
  | _, _, .cons h t, 0, x, e => by
    have e' := Option.some.inj e
    subst e'
    exact ⟨_, rfl, h⟩
  | _, _, .cons h t, i + 1, x, e => t.get i x e
theorem DtAll.ints {H : Hp} : ∀ {ns : List Int} {v : List V}, DtAll H v (ns.map PyData.int) → v = ns.map V.int
  | [], _, .nil => rfl
  | n :: ns, _, .cons (.int _) t => by
    rw [DtAll.ints t]
    rfl
theorem dt_ints {H : Hp} : ∀ ns : List Int, DtAll H (ns.map V.int) (ns.map PyData.int)
  | [] => .nil
  | n :: ns => .cons (.int n) (dt_ints ns)
theorem DtAll.app {H : Hp} : ∀ {v v' : List V} {d d' : List PyData}, DtAll H v d → DtAll H v' d' → DtAll H (v ++ v') (d ++ d')
  | _, _, _, _, .nil, t => t
  | _, _, _, _, .cons h r, t => .cons h (r.app t)
/-- what is asked about: such data, a list of it, an empty dict; none is the pot -/
inductive Th (p : Addr) (H : Hp) : V → PyData → Prop
  | dat {v : V} {d : PyData} : Dt H v d → Th p H v d
  | lst {a : Addr} {xs : List V} {ds : List PyData} : H a = some (.lst xs) → a ≠ p → DtAll H xs ds → Th p H (.ref a) (.list ds)
  | dct {a : Addr} : H a = some (.dK []) → a ≠ p → Th p H (.ref a) (.dict [])
theorem Th.da {p : Addr} {K : PySem.W.Frag} {H : Hp} {v : V} {d : PyData} (h : Th p H v d) : Da K H v d := by
  cases h with
  | dat h => exact .inl ⟨h.dp, h.plain⟩
  | lst h _ a => exact .inl ⟨.lst (SqL.of h) a.dp, by have := a.plain; simpa [PyData.hasDict] using this⟩
  | dct h _ => exact .inr ⟨_, rfl, h, rfl⟩
theorem Th.same {p : Addr} {H H' : Hp} {v : V} {d : PyData} (h : Th p H v d) (s : Same H H') : Th p H' v d := by
  cases h with
  | dat h => exact .dat (h.keep (Same.tk s))
  | lst h n a => exact .lst (s _ _ h) n (a.keep (Same.tk s))
  | dct h n => exact .dct (s _ _ h) n
theorem Th.kp {p : Addr} {H H' : Hp} {v : V} {d : PyData} {xs : List V} (h : Th p H v d) (k : Kp p H H') (hp : H p = some (.lst xs)) : Th p H' v d := by
  cases h with
  | dat h => exact .dat (h.keep (k.tk hp))
  | lst h n a => exact .lst (k _ _ n h) n (a.keep (k.tk hp))
  | dct h n => exact .dct (k _ _ n h) n
def tyN : PyData → String
  | .none => "NoneType" | .bool _ => "bool" | .int _ => "int" | .str _ => "str" | .list _ => "list" | .tuple _ => "tuple" | .dict _ => "dict"
theorem Dt.ty {K : PySem.W.Frag} {H : Hp} {v : V} {d : PyData} (h : Dt H v d) : TyX K H v (.type (tyN d)) := by
  cases h with
  | non => exact .base .non
  | bl b => exact .base (.bl b)
  | int i => exact .base (.int i)
  | str x => exact .base (.str x)
  | tup h a => exact .base (.tup h)
theorem Th.ty {p : Addr} {K : PySem.W.Frag} {H : Hp} {v : V} {d : PyData} (h : Th p H v d) : TyX K H v (.type (tyN d)) := by
  cases h with
  | dat h => exact h.ty
  | lst h _ _ => exact .base (.lst h)
  | dct h _ => exact .base (.dK h)
def isI : PyData → Bool
  | .int _ => true
  | .bool _ => true
  | _ => false
def isB : PyData → Bool
  | .bool _ => true
  | _ => false
def isT : PyData → Bool
  | .tuple _ => true
  | _ => false
theorem kit_int (d : PyData) : kitB (tyN d) "int" = some (isI d) := by cases d <;> simp only [tyN, isI] <;> decide +kernel
theorem kit_bool (d : PyData) : kitB (tyN d) "bool" = some (isB d) := by cases d <;> simp only [tyN, isB] <;> decide +kernel
theorem kit_tuple (d : PyData) : kitB (tyN d) "tuple" = some (isT d) := by cases d <;> simp only [tyN, isT] <;> decide +kernel
/-- a number from lo to hi -/
def inR (lo hi : Int) : PyData → Bool
  | .int i => decide (lo ≤ i) && decide (i ≤ hi)
  | _ => false
theorem scWithin : FnScope ["value", "low", "high"] ["value", "low", "high"] (defScope sWithin) := ⟨rfl, rfl, rfl, by decide +kernel, rfl, by decide +kernel, by decide +kernel⟩
theorem scNumber : FnScope ["_law_thing", "_law_below"] ["_law_thing", "_law_below"] (defScope sNumber) := ⟨rfl, rfl, rfl, by decide +kernel, rfl, by decide +kernel, by decide +kernel⟩
theorem scOrder : FnScope ["count", "value", "slot"] ["count", "value"] (defScope sOrder) := ⟨rfl, rfl, rfl, by decide +kernel, rfl, by decide +kernel, by decide +kernel⟩
theorem scIsProbe : FnScope ["_law_size", "_law_thing", "_law_one"] ["_law_size", "_law_thing"] (defScope sIsProbe) := ⟨rfl, rfl, rfl, by decide +kernel, rfl, by decide +kernel, by decide +kernel⟩
section
variable {P : Program} {w : World} {K : PySem.W.Frag} {mg : Str → Option Value} {base : Heap}
def spWithin : Sp := fun vs H Q _ => ∃ (v : V) (d : PyData) (lo hi : Int), vs = [v, .int lo, .int hi] ∧ Dt H v d ∧ Q (.bl (inR lo hi d)) H
theorem ok_within {f : Addr} {fd : FuncData} {k : Nat} (F : Fun K "is_integer_within" "is_integer_within" sWithin f fd) (mi : mg "isinstance" = none) (mn : mg "int" = none) (mb : mg "bool" = none) :
    FnOk P w K mg base CX0 (k + 1) f fd ["value", "low", "high"] spWithin := by
  refine F.ok scWithin (fun vs H Q E h => ?_) (fun cdv A outer s H vs Q E hr h => ?_)
  · obtain ⟨v, d, lo, hi, rfl, _⟩ := h
    rfl
  · obtain ⟨v, d, lo, hi, rfl, hd, q⟩ := h
    refine ⟨_, pss_one (ps_ret (pe_and (pe_callB call_isi (by rfl) mi (by decide +kernel) (pa_cons (pv 0) (pa_cons (pe_bltn (v := .ty "int") (by rfl) mn (by decide +kernel) rfl) pa_nil)))
      (pe_and (pe_not (pe_callB call_isi (by rfl) mi (by decide +kernel) (pa_cons (pv 0) (pa_cons (pe_bltn (v := .ty "bool") (by rfl) mb (by decide +kernel) rfl) pa_nil))))
        (pe_one (pe_chain op_le op_le (pv 1) (pv 0) (pv 2)))))), ?_⟩
    refine ⟨v, rfl, v, .ty "int", _, _, _, rfl, .ty "int", hd.ty, kit_ty (kit_int d), _, rfl, ite2 (fun e => ?_) (fun e => ?_)⟩
    · refine ⟨v, rfl, v, .ty "bool", _, _, _, rfl, .ty "bool", hd.ty, kit_ty (kit_bool d), _, rfl, _, rfl, ite2 (fun e2 => ?_) (fun e2 => ?_)⟩
      · cases hd with
        | int i =>
          refine ⟨.int lo, rfl, .int i, rfl, lo, i, rfl, rfl, _, rfl, ite2 (fun e3 => ?_) (fun e3 => ?_)⟩
          · refine ⟨.int hi, rfl, i, hi, rfl, rfl, ?_⟩
            have z : inR lo hi (.int i) = decide (i ≤ hi) := by
              show (decide (lo ≤ i) && decide (i ≤ hi)) = _
              rw [e3, Bool.true_and]
            rw [z] at q
            exact q
          · have z : inR lo hi (.int i) = false := by
              show (decide (lo ≤ i) && decide (i ≤ hi)) = _
              rw [Bool.not_eq_true] at e3
              rw [e3, Bool.false_and]
            rw [z] at q
            exact q
        | non => cases e
        | bl b => cases e2
        | str x => cases e
        | tup h a => cases e
      · have z : inR lo hi d = false := by
          cases d <;> first | rfl | exact absurd rfl e2
        rw [z] at q
        exact q
    · have z : inR lo hi d = false := by
        cases d <;> first | rfl | exact absurd rfl e
      rw [z] at q
      exact q
def spNumber : Sp := fun vs H Q _ => ∃ (v : V) (d : PyData) (b : Int), vs = [v, .int b] ∧ Dt H v d ∧ Q (.bl (inR 0 (b - 1) d)) H
theorem ok_number {f : Addr} {fd : FuncData} {k : Nat} (F : Fun K "_law_is_number" "_law_is_number" sNumber f fd) (mi : mg "isinstance" = none) (mn : mg "int" = none) (mb : mg "bool" = none) :
    FnOk P w K mg base CX0 (k + 1) f fd ["_law_thing", "_law_below"] spNumber := by
  refine F.ok scNumber (fun vs H Q E h => ?_) (fun cdv A outer s H vs Q E hr h => ?_)
  · obtain ⟨v, d, b, rfl, _⟩ := h
    rfl
  · obtain ⟨v, d, hi, rfl, hd, q⟩ := h
    refine ⟨_, pss_one (ps_ret (pe_and (pe_callB call_isi (by rfl) mi (by decide +kernel) (pa_cons (pv 0) (pa_cons (pe_bltn (v := .ty "int") (by rfl) mn (by decide +kernel) rfl) pa_nil)))
      (pe_and (pe_not (pe_callB call_isi (by rfl) mi (by decide +kernel) (pa_cons (pv 0) (pa_cons (pe_bltn (v := .ty "bool") (by rfl) mb (by decide +kernel) rfl) pa_nil))))
        (pe_one (pe_chain op_le op_lt pe_int (pv 0) (pv 1)))))), ?_⟩
    refine ⟨v, rfl, v, .ty "int", _, _, _, rfl, .ty "int", hd.ty, kit_ty (kit_int d), _, rfl, ite2 (fun e => ?_) (fun e => ?_)⟩
    · refine ⟨v, rfl, v, .ty "bool", _, _, _, rfl, .ty "bool", hd.ty, kit_ty (kit_bool d), _, rfl, _, rfl, ite2 (fun e2 => ?_) (fun e2 => ?_)⟩
      · cases hd with
        | int i =>
          refine ⟨.int i, rfl, 0, i, rfl, rfl, _, rfl, ite2 (fun e3 => ?_) (fun e3 => ?_)⟩
          · refine ⟨.int hi, rfl, i, hi, rfl, rfl, ?_⟩
            have z : inR 0 (hi - 1) (.int i) = decide (i < hi) := by
              show (decide (0 ≤ i) && decide (i ≤ hi - 1)) = _
              rw [e3, Bool.true_and]
              exact decide_eq_decide.mpr (by omega)
            rw [z] at q
            exact q
          · have z : inR 0 (hi - 1) (.int i) = false := by
              show (decide (0 ≤ i) && decide (i ≤ hi - 1)) = _
              rw [Bool.not_eq_true] at e3
              rw [e3, Bool.false_and]
            rw [z] at q
            exact q
        | non => cases e
        | bl b => cases e2
        | str x => cases e
        | tup h a => cases e
      · have z : inR 0 (hi - 1) d = false := by
          cases d <;> first | rfl | exact absurd rfl e2
        rw [z] at q
        exact q
    · have z : inR 0 (hi - 1) d = false := by
        cases d <;> first | rfl | exact absurd rfl e
      rw [z] at q
      exact q
end
end SL

namespace SL
open PySem PySem.Spec PyProof.Rows L2
/-- a probe order of n slots -/
def IsP (n : Nat) (d : PyData) : Prop := ∃ ns : List Int, d = .tuple (ns.map PyData.int) ∧ ns.Perm (R n)
theorem all_in {n : Nat} : ∀ {ds : List PyData}, (ds.map (inR 0 ((n : Int) - 1))).all id = true → ∃ ns : List Int, ds = ns.map PyData.int ∧ ∀ x ∈ ns, x ∈ R n
  | [], _ => ⟨[], rfl, fun x hx => by cases hx⟩
  | d :: ds, h => by
    rw [List.map_cons, List.all_cons, Bool.and_eq_true] at h
    obtain ⟨ns, e, hn⟩ := all_in (n := n) h.2
    have h1 : inR 0 ((n : Int) - 1) d = true := h.1
    cases d with
    | int i =>
      have h2 : (decide (0 ≤ i) && decide (i ≤ (n : Int) - 1)) = true := h1
      rw [Bool.and_eq_true, decide_eq_true_eq, decide_eq_true_eq] at h2
      refine ⟨i :: ns, by rw [e]; rfl, fun x hx => ?_⟩
      rcases List.mem_cons.mp hx with z | z
      · rw [z]
        exact R_mem.mpr (by omega)
      · exact hn x z
    | none => cases h1
    | bool b => cases h1
    | str x => cases h1
    | list xs => cases h1
    | tuple xs => cases h1
    | dict xs => cases h1
theorem all_of {n : Nat} : ∀ {ns : List Int}, (∀ x ∈ ns, x ∈ R n) → ((ns.map PyData.int).map (inR 0 ((n : Int) - 1))).all id = true
  | [], _ => rfl
  | i :: ns, h => by
    have z := R_mem.mp (h i List.mem_cons_self)
    rw [List.map_cons, List.map_cons, List.all_cons, Bool.and_eq_true]
    refine ⟨?_, all_of fun x hx => h x (List.mem_cons_of_mem _ hx)⟩
    show (decide (0 ≤ i) && decide (i ≤ (n : Int) - 1)) = true
    rw [Bool.and_eq_true, decide_eq_true_eq, decide_eq_true_eq]
    omega
theorem IsP.all {n : Nat} {ds : List PyData} (h : IsP n (.tuple ds)) : (ds.map (inR 0 ((n : Int) - 1))).all id = true ∧ ds.length = n := by
  obtain ⟨ns, e, p⟩ := h
  cases e
  exact ⟨all_of fun x hx => p.mem_iff.mp hx, by rw [List.length_map, p.length_eq, R_len]⟩
theorem ints_inj : ∀ {a b : List Int}, a.map PyData.int = b.map PyData.int → a = b
  | [], [], _ => rfl
  | [], _ :: _, h => by cases h
  | _ :: _, [], h => by cases h
  | x :: a, y :: b, h => by
    rw [List.map_cons, List.map_cons] at h
    injection h with h1 h2
    injection h1 with h3
    rw [h3, ints_inj h2]
theorem eqv_ints : ∀ (a b : List Int), PyData.eqvAll (a.map PyData.int) (b.map PyData.int) = decide (a = b)
  | [], [] => by simp [PyData.eqvAll]
  | [], _ :: _ => by simp [PyData.eqvAll]
  | _ :: _, [] => by simp [PyData.eqvAll]
  | x :: a, y :: b => by
    rw [List.map_cons, List.map_cons]
    simp only [PyData.eqvAll, PyData.eqv, eqv_ints a b]
    by_cases h : x = y
    · subst h
      by_cases h2 : a = b
      · simp [h2]
      · simp [h2]
    · simp [h]
theorem IsP.iff {n : Nat} {ns : List Int} : IsP n (.tuple (ns.map PyData.int)) ↔ ns.Perm (R n) := by
  constructor
  · rintro ⟨ms, e, p⟩
    injection e with e1
    rw [ints_inj e1]
    exact p
  · intro p
    exact ⟨ns, rfl, p⟩
section
variable {P : Program} {w : World} {K : PySem.W.Frag} {mg : Str → Option Value} {base : Heap}
def spOrder : Sp := fun vs H Q _ => ∃ (p : Addr) (n : Nat) (v : V) (d : PyData), vs = [.int n, v] ∧ Th p H v d ∧ (∀ ds, d = .tuple ds → ds.length ≤ 200) ∧ n ≤ 1000 ∧
  ∀ (b : Bool) (H' : Hp), Same H H' → (b = true ↔ IsP n d) → Q (.bl b) H'
theorem ok_order {f fW : Addr} {fd fdW : FuncData} {k : Nat} (F : Fun K "is_probe_order" "is_probe_order" sOrder f fd)
    (FW : Fun K "is_integer_within" "is_integer_within" sWithin fW fdW) (bW : Binds K fdW ["value", "low", "high"] []) (gW : mg "is_integer_within" = some (.ref fW))
    (mi : mg "isinstance" = none) (mn : mg "int" = none) (mb : mg "bool" = none) (mt : mg "tuple" = none) (ml : mg "len" = none) (ma : mg "all" = none) (ms : mg "set" = none) :
    FnOk P w K mg base CX0 (k + 2) f fd ["count", "value"] spOrder := by
  have GW : FnOk P w K mg base CX0 (k + 1) fW fdW ["value", "low", "high"] spWithin := ok_within FW mi mn mb
  refine F.ok scOrder (fun vs H Q E h => ?_) (fun cdv A outer s H vs Q E hr h => ?_)
  · obtain ⟨p, n, v, d, rfl, _⟩ := h
    rfl
  · obtain ⟨p, n, v, d, rfl, th, few, n1, q⟩ := h
    refine ⟨_, pss_cons (ps_if (PW.pt (pw_or (pt_not (pt_val (pe_callB call_isi (by rfl) mi (by decide +kernel) (pa_cons (pv 1) (pa_cons (pe_bltn (v := .ty "tuple") (by rfl) mt (by decide +kernel) rfl) pa_nil)))))
          (pw_or1 (pt_cmpR op_ne (pe_callB call_len_seq (by rfl) ml PySem.boot_len (pa_cons (pv 1) pa_nil)) (pv 0) (nomark _))))) (pss_one (ps_ret pe_bl)) pss_nil)
      (pss_one (ps_ret (pe_and (pe_callB (cr_all rfl) (by rfl) ma (by decide +kernel) (pa_cons (pe_lc (own := [("slot", 2)]) (g := gName 2) (tt := tYes) rfl scOrder.nd (pi_tup (pv 1))
          (blkOk_by (own := [("slot", 2)]) (N := ["count", "value", "slot"]) (sc := defScope sOrder) (by decide +kernel)) (fun _ _ _ _ _ => pg_name (i := 2) scOrder.nd rfl (Or.inl rfl)) (fun _ _ _ _ _ => pts_nil)
          (fun _ _ _ _ _ => pe_call GW hr (by rfl) gW FW.kp bW .nil pass0 (pa_cons (pv 2) (pa_cons pe_int (pa_cons (pe_op op_sub (pv 0) pe_int) pa_nil))))) pa_nil))
        (pe_one (pe_cmpR op_eq (pe_lenSetT (by rfl) ml (by rfl) ms (pv 1)) (pv 0) (nomark _)))))), ?_⟩
    refine ⟨v, rfl, v, .ty "tuple", _, _, _, rfl, .ty "tuple", th.ty, kit_ty (kit_tuple d), _, rfl, ?_⟩
    by_cases isTu : isT d = true
    · rw [isTu]
      -- a tuple
      obtain ⟨a, xs, ds, rfl, rfl, ha, al⟩ : ∃ (a : Addr) (xs : List V) (ds : List PyData), v = .ref a ∧ d = .tuple ds ∧ H a = some (.tup xs) ∧ DtAll H xs ds := by
        cases th with
        | dat h =>
          cases h with
          | tup h a => exact ⟨_, _, _, rfl, rfl, h, a⟩
          | non => cases isTu
          | bl b => cases isTu
          | int i => cases isTu
          | str x => cases isTu
        | lst h _ _ => cases isTu
        | dct h _ => cases isTu
      have lenx := al.len
      refine ⟨.ref a, rfl, a, xs, rfl, .inr (SqT.of ha), .int n, rfl, rfl, _, rfl, ite2 (fun e => ?_) (fun e => ?_)⟩
      · -- another length
        refine q false H (Same.refl H) ⟨(fun z => by cases z), fun z => ?_⟩
        have ne : ¬ ((xs.length : Int) = n) := fun w => by
          rw [w] at e
          simp at e
        exact absurd (by rw [lenx, z.all.2]) ne
      · have eq : (xs.length : Int) = n := by
          by_cases w : (xs.length : Int) = n
          · exact w
          · refine absurd ?_ e
            simp [w]
        refine ⟨.ref a, rfl, a, rfl, ⟨_, SqT.of ha⟩, fun D nD => ?_⟩
        refine lc_tup (K := K) (a := a) (xs := xs) (fun i G => Same H G ∧ G D = some (.lst (((ds.map (inR 0 ((n : Int) - 1))).take i).map V.bl))) ⟨same_new nD, upd_same⟩ (fun i G _ h => SqT.of (h.1 _ _ ha)) ?_ ?_
        · intro i x G hx ⟨sm, gd⟩
          obtain ⟨y, hy, dy⟩ := al.get i x hx
          have hlt : i < xs.length := (List.getElem?_eq_some_iff.mp hx).1
          refine ⟨rfl, x, rfl, .int n, rfl, n, 1, rfl, rfl, x, y, 0, (n : Int) - 1, rfl, dy.keep (Same.tk sm), _, gd, ?_, ?_⟩
          · rw [List.length_map, List.length_take]
            exact small1000 (by omega)
          · refine ⟨fun c o hc => ?_, ?_⟩
            · rw [upd_ne (ne_of_none hc nD)]
              exact sm _ _ hc
            · have gi : (ds.map (inR 0 ((n : Int) - 1)))[i]? = some (inR 0 ((n : Int) - 1) y) := by
                rw [List.getElem?_map, hy]
                rfl
              rw [upd_same, List.take_add_one, gi, List.map_append]
              rfl
        · intro G ⟨sm, gd⟩
          have full : (ds.map (inR 0 ((n : Int) - 1))).take xs.length = ds.map (inR 0 ((n : Int) - 1)) := List.take_of_length_le (by rw [List.length_map]; omega)
          rw [full] at gd
          refine ⟨D, _, rfl, SqL.of gd, _, rfl, ite2 (fun e1 => ?_) (fun e1 => ?_)⟩
          · obtain ⟨ns, rfl, inside⟩ := all_in e1
            have ex : xs = ns.map V.int := al.ints
            subst ex
            refine ⟨.ref a, rfl, a, ns, rfl, SqT.of (sm _ _ ha), ?_, fun ks nd mem => ?_⟩
            · have := few _ rfl
              rw [List.length_map] at this
              omega
            · refine ⟨.int n, rfl, rfl, ?_⟩
              refine q _ G sm ?_
              rw [IsP.iff, ← probe_by_set nd mem inside, decide_eq_true_eq]
              rw [List.length_map] at eq
              constructor
              · intro z
                injection z with z
                omega
              · rintro ⟨z1, z2⟩
                rw [z2]
          · refine q false G sm ⟨(fun z => by cases z), fun z => absurd z.all.1 e1⟩
    · rw [Bool.not_eq_true] at isTu
      rw [isTu]
      refine q false H (Same.refl H) ⟨(fun z => by cases z), ?_⟩
      rintro ⟨ns, rfl, _⟩
      cases isTu
def spIsProbe : Sp := spOrder
theorem ok_isProbe {f fW : Addr} {fd fdW : FuncData} {k : Nat} (F : Fun K "_law_is_probe" "_law_is_probe" sIsProbe f fd)
    (FW : Fun K "_law_is_number" "_law_is_number" sNumber fW fdW) (bW : Binds K fdW ["_law_thing", "_law_below"] []) (gW : mg "_law_is_number" = some (.ref fW))
    (mi : mg "isinstance" = none) (mn : mg "int" = none) (mb : mg "bool" = none) (mt : mg "tuple" = none) (ma : mg "all" = none) (ms : mg "sorted" = none) (mli : mg "list" = none) (mr : mg "range" = none) :
    FnOk P w K mg base CX0 (k + 2) f fd ["_law_size", "_law_thing"] spIsProbe := by
  have GW : FnOk P w K mg base CX0 (k + 1) fW fdW ["_law_thing", "_law_below"] spNumber := ok_number FW mi mn mb
  refine F.ok scIsProbe (fun vs H Q E h => ?_) (fun cdv A outer s H vs Q E hr h => ?_)
  · obtain ⟨p, n, v, d, rfl, _⟩ := h
    rfl
  · obtain ⟨p, n, v, d, rfl, th, few, n1, q⟩ := h
    refine ⟨_, pss_cons (ps_if (PW.pt (pw_or (pt_not (pt_val (pe_callB call_isi (by rfl) mi (by decide +kernel) (pa_cons (pv 1) (pa_cons (pe_bltn (v := .ty "tuple") (by rfl) mt (by decide +kernel) rfl) pa_nil)))))
          (pw_or1 (pt_not (pt_val (pe_callB (cr_all rfl) (by rfl) ma (by decide +kernel) (pa_cons (pe_lc (own := [("_law_one", 2)]) (g := gName 2) (tt := tYes) rfl scIsProbe.nd (pi_tup (pv 1))
          (blkOk_by (own := [("_law_one", 2)]) (N := ["_law_size", "_law_thing", "_law_one"]) (sc := defScope sIsProbe) (by decide +kernel)) (fun _ _ _ _ _ => pg_name (i := 2) scIsProbe.nd rfl (Or.inl rfl)) (fun _ _ _ _ _ => pts_nil)
          (fun _ _ _ _ _ => pe_call GW hr (by rfl) gW FW.kp bW .nil pass0 (pa_cons (pv 2) (pa_cons (pv 0) pa_nil)))) pa_nil))))))) (pss_one (ps_ret pe_bl)) pss_nil)
      (pss_one (ps_ret (pe_cmpR (op_eqD hr.units) (pe_callB cr_sortT (by rfl) ms (by decide +kernel) (pa_cons (pv 1) pa_nil)) (pe_listRg rfl (by rfl) mli (prg_1 (by rfl) mr (pv 0))) (nomark _)))), ?_⟩
    refine ⟨v, rfl, v, .ty "tuple", _, _, _, rfl, .ty "tuple", th.ty, kit_ty (kit_tuple d), _, rfl, ?_⟩
    by_cases isTu : isT d = true
    · rw [isTu]
      obtain ⟨a, xs, ds, rfl, rfl, ha, al⟩ : ∃ (a : Addr) (xs : List V) (ds : List PyData), v = .ref a ∧ d = .tuple ds ∧ H a = some (.tup xs) ∧ DtAll H xs ds := by
        cases th with
        | dat h =>
          cases h with
          | tup h a => exact ⟨_, _, _, rfl, rfl, h, a⟩
          | non => cases isTu
          | bl b => cases isTu
          | int i => cases isTu
          | str x => cases isTu
        | lst h _ _ => cases isTu
        | dct h _ => cases isTu
      have lenx := al.len
      have fewx := few _ rfl
      refine ⟨.ref a, rfl, a, rfl, ⟨_, SqT.of ha⟩, fun D nD => ?_⟩
      refine lc_tup (K := K) (a := a) (xs := xs) (fun i G => Same H G ∧ G D = some (.lst (((ds.map (inR 0 ((n : Int) - 1))).take i).map V.bl))) ⟨same_new nD, upd_same⟩ (fun i G _ h => SqT.of (h.1 _ _ ha)) ?_ ?_
      · intro i x G hx ⟨sm, gd⟩
        obtain ⟨y, hy, dy⟩ := al.get i x hx
        have hlt : i < xs.length := (List.getElem?_eq_some_iff.mp hx).1
        refine ⟨rfl, x, rfl, .int n, rfl, x, y, n, rfl, dy.keep (Same.tk sm), _, gd, ?_, ?_⟩
        · rw [List.length_map, List.length_take]
          exact small1000 (by omega)
        · refine ⟨fun c o hc => ?_, ?_⟩
          · rw [upd_ne (ne_of_none hc nD)]
            exact sm _ _ hc
          · have gi : (ds.map (inR 0 ((n : Int) - 1)))[i]? = some (inR 0 ((n : Int) - 1) y) := by
              rw [List.getElem?_map, hy]
              rfl
            rw [upd_same, List.take_add_one, gi, List.map_append]
            rfl
      · intro G ⟨sm, gd⟩
        have full : (ds.map (inR 0 ((n : Int) - 1))).take xs.length = ds.map (inR 0 ((n : Int) - 1)) := List.take_of_length_le (by rw [List.length_map]; omega)
        rw [full] at gd
        refine ⟨D, _, rfl, SqL.of gd, _, rfl, ?_⟩
        by_cases e1 : (ds.map (inR 0 ((n : Int) - 1))).all id = true
        · rw [e1]
          obtain ⟨ns, rfl, inside⟩ := all_in e1
          have ex : xs = ns.map V.int := al.ints
          subst ex
          refine ⟨.ref a, rfl, a, ns, rfl, SqT.of (sm _ _ ha), fun out t perm rise nt => ?_⟩
          have s2 : Same G (upd G t (.lst (out.map V.int))) := same_new nt
          refine ⟨.int n, rfl, n, rfl, RgOk.of_le (by omega) (by omega) (by omega) (by omega), fun l nl => ?_⟩
          rw [rgV_R]
          have s3 : Same (upd G t (.lst (out.map V.int))) (upd (upd G t (.lst (out.map V.int))) l (.lst ((R n).map V.int))) := same_new nl
          refine ⟨_, _, .lst (SqL.of (s3 _ _ upd_same)) (dp_ints K _ out), .lst (SqL.of upd_same) (dp_ints K _ (R n)), shaped_ints out, shaped_ints (R n), ?_⟩
          refine q _ _ ((sm.trans s2).trans s3) ?_
          rw [IsP.iff, ← probe_by_sort perm rise]
          show PyData.eqv (.list (out.map PyData.int)) (.list ((R n).map PyData.int)) = true ↔ _
          simp only [PyData.eqv, eqv_ints, decide_eq_true_eq]
        · rw [Bool.not_eq_true] at e1
          rw [e1]
          refine q false G sm ⟨(fun z => by cases z), fun z => ?_⟩
          rw [z.all.1] at e1
          cases e1
    · rw [Bool.not_eq_true] at isTu
      rw [isTu]
      refine q false H (Same.refl H) ⟨(fun z => by cases z), ?_⟩
      rintro ⟨ns, rfl, _⟩
      cases isTu
end
end SL

namespace SL
open PySem PySem.Spec PyProof.Rows L2
/-! ### how long the text of data is -/
structure El (k c : Nat) (d : PyData) : Prop where
  sh : d.showable = true
  dp : d.depth ≤ k
  ln : d.shown.length ≤ c
theorem El.mono {k c k' c' : Nat} {d : PyData} (h : El k c d) (hk : k ≤ k') (hc : c ≤ c') : El k' c' d := ⟨h.sh, Nat.le_trans h.dp hk, Nat.le_trans h.ln hc⟩
theorem el_all {k c : Nat} : ∀ {ds : List PyData}, (∀ x ∈ ds, El k c x) → PyData.showableAll ds = true ∧ PyData.depthAll ds ≤ k ∧ ((PyData.shownAll ds).map (·.length)).sum ≤ ds.length * c ∧ (PyData.shownAll ds).length = ds.length
  | [], _ => by simp [PyData.showableAll, PyData.depthAll, PyData.shownAll]
  | d :: ds, h => by
    obtain ⟨a, b, e, f⟩ := el_all (ds := ds) fun x hx => h x (List.mem_cons_of_mem _ hx)
    have h1 := h d List.mem_cons_self
    refine ⟨?_, ?_, ?_, ?_⟩
    · simp only [PyData.showableAll, h1.sh, a, Bool.and_self]
    · simp only [PyData.depthAll]
      have := h1.dp
      omega
    · simp only [PyData.shownAll, List.map_cons, List.sum_cons, List.length_cons]
      have := h1.ln
      rw [Nat.succ_mul]
      omega
    · simp only [PyData.shownAll, List.length_cons, f]
theorem el_tuple {k c m : Nat} {ds : List PyData} (h : ∀ x ∈ ds, El k c x) (l : ds.length ≤ m) : El (k + 1) (m * (c + 2) + 3) (.tuple ds) := by
  obtain ⟨a, b, e, f⟩ := el_all h
  have z := tupleText_len_le (PyData.shownAll ds)
  have z1 : ds.length * c ≤ m * c := Nat.mul_le_mul_right c l
  refine ⟨by simp only [PyData.showable]; exact a, by simp only [PyData.depth]; omega, ?_⟩
  simp only [PyData.shown]
  rw [f] at z
  rw [Nat.mul_add]
  omega
theorem el_list {k c m : Nat} {ds : List PyData} (h : ∀ x ∈ ds, El k c x) (l : ds.length ≤ m) : El (k + 1) (m * (c + 2) + 3) (.list ds) := by
  obtain ⟨a, b, e, f⟩ := el_all h
  have z := listText_len_le (PyData.shownAll ds)
  have z1 : ds.length * c ≤ m * c := Nat.mul_le_mul_right c l
  refine ⟨by simp only [PyData.showable]; exact a, by simp only [PyData.depth]; omega, ?_⟩
  simp only [PyData.shown]
  rw [f] at z
  rw [Nat.mul_add]
  omega
theorem el_none : El 0 20 .none := ⟨by simp [PyData.showable], by simp [PyData.depth], by decide +kernel⟩
theorem el_bool (b : Bool) : El 0 20 (.bool b) := ⟨by simp [PyData.showable], by simp [PyData.depth], by cases b <;> decide +kernel⟩
theorem el_int {i : Int} (h0 : -10 ≤ i) (h1 : i ≤ 200) : El 0 20 (.int i) := by
  refine ⟨?_, by simp [PyData.depth], ?_⟩
  · simp only [PyData.showable]
    refine decide_eq_true ?_
    have z : i.natAbs ≤ 200 := by omega
    have y : i.natAbs.log2 ≤ i.natAbs := Nat.log2_le_self _
    omega
  · have all : ((List.range 211).all fun n => decide ((PyData.shown (.int ((n : Int) - 10))).length ≤ 20)) = true := by decide +kernel
    have z := List.all_eq_true.mp all (i + 10).toNat (List.mem_range.mpr (by omega))
    have e : (((i + 10).toNat : Nat) : Int) - 10 = i := by omega
    rw [e] at z
    exact of_decide_eq_true z
theorem el_digits {i : Int} (h0 : 0 ≤ i) (h1 : i ≤ 100) : El 0 20 (.str (toString i)) := by
  refine ⟨by simp [PyData.showable], by simp [PyData.depth], ?_⟩
  have all : ((List.range 101).all fun n => decide ((PyData.shown (.str (toString ((n : Int))))).length ≤ 20)) = true := by decide +kernel
  have z := List.all_eq_true.mp all i.toNat (List.mem_range.mpr (by omega))
  have e : ((i.toNat : Nat) : Int) = i := by omega
  rw [e] at z
  exact of_decide_eq_true z
/-- what repr may be asked of, and what is_probe_order may be asked of -/
def Good (d : PyData) : Prop := El 20 1000000 d ∧ ∀ ds, d = .tuple ds → ds.length ≤ 200
theorem good_of {k c : Nat} {d : PyData} (h : El k c d) (hk : k ≤ 20) (hc : c ≤ 1000000) (l : ∀ ds, d = .tuple ds → ds.length ≤ 200) : Good d := ⟨h.mono hk hc, l⟩
/-- each item is such data -/
def Ek (k c : Nat) (H : Hp) (xs : List V) : Prop := ∀ y ∈ xs, ∃ d, Dt H y d ∧ El k c d
theorem Ek.sub {k c : Nat} {H : Hp} {xs ys : List V} (h : Ek k c H xs) (s : ys.Sublist xs) : Ek k c H ys := fun y hy => h y (s.subset hy)
theorem Ek.keep {k c : Nat} {H H' : Hp} {xs : List V} (h : Ek k c H xs) (t : Tk H H') : Ek k c H' xs := fun y hy => by
  obtain ⟨d, a, b⟩ := h y hy
  exact ⟨d, a.keep t, b⟩
theorem Ek.app {k c : Nat} {H : Hp} {xs ys : List V} (h : Ek k c H xs) (g : Ek k c H ys) : Ek k c H (xs ++ ys) := fun y hy => by
  rcases List.mem_append.mp hy with z | z
  · exact h y z
  · exact g y z
theorem Ek.mono {k c k' c' : Nat} {H : Hp} {xs : List V} (h : Ek k c H xs) (hk : k ≤ k') (hc : c ≤ c') : Ek k' c' H xs := fun y hy => by
  obtain ⟨d, a, b⟩ := h y hy
  exact ⟨d, a, b.mono hk hc⟩
theorem Ek.one {k c : Nat} {H : Hp} {v : V} {d : PyData} (h : Dt H v d) (e : El k c d) : Ek k c H [v] := fun y hy => by
  rw [List.mem_singleton.mp hy]
  exact ⟨d, h, e⟩
theorem Ek.data {k c : Nat} {H : Hp} : ∀ {xs : List V}, Ek k c H xs → ∃ ds, DtAll H xs ds ∧ ∀ d ∈ ds, El k c d
  | [], _ => ⟨[], .nil, fun d hd => by cases hd⟩
  | v :: xs, h => by
    obtain ⟨d, a, b⟩ := h v List.mem_cons_self
    obtain ⟨ds, e, f⟩ := Ek.data (xs := xs) fun y hy => h y (List.mem_cons_of_mem _ hy)
    refine ⟨d :: ds, .cons a e, fun x hx => ?_⟩
    rcases List.mem_cons.mp hx with z | z
    · rw [z]
      exact b
    · exact f x z
theorem Ek.tuple {k c m : Nat} {H : Hp} {xs : List V} {t : Addr} (h : Ek k c H xs) (ht : H t = some (.tup xs)) (l : xs.length ≤ m) : ∃ ds, Dt H (.ref t) (.tuple ds) ∧ El (k + 1) (m * (c + 2) + 3) (.tuple ds) ∧ ds.length = xs.length := by
  obtain ⟨ds, e, f⟩ := h.data
  exact ⟨ds, .tup ht e, el_tuple f (by rw [← e.len]; exact l), e.len.symm⟩
theorem ek_ints {H : Hp} {ns : List Int} (h : ∀ x ∈ ns, 0 ≤ x ∧ x ≤ 100) : Ek 0 20 H (ns.map V.int) := fun y hy => by
  obtain ⟨x, hx, rfl⟩ := List.mem_map.mp hy
  have := h x hx
  exact ⟨.int x, .int x, el_int (by omega) (by omega)⟩
/-! ### slices and sums of tracked tuples -/
theorem cut_sub (xs : List V) (lo hi : Option Int) : (cutV xs lo hi).Sublist xs := (List.take_sublist _ _).trans (List.drop_sublist _ _)
def rSlW : V → Option Int → Option Int → Hp → VK → Prop := fun x lo hi H Q => ∃ a xs, x = .ref a ∧ H a = some (.tup xs) ∧ ∀ (H' : Hp) (t : Addr) (ys : List V), Same H H' → H' t = some (.tup ys) → ys.Sublist xs → ys = cutV xs lo hi ∨ ys = xs → Q (.ref t) H'
theorem sl_tupW {X : Cx} : SlR X rSlW := by
  intro pins s σ H x v vl vu lo hi sl Q I rx hs pl pu h
  obtain ⟨a, xs, rfl, ha, q⟩ := h
  refine sl_tupA pins s σ H _ v vl vu lo hi sl Q I rx hs pl pu ⟨a, xs, rfl, SqT.of ha, fun _ => ?_, fun _ p np => ?_⟩
  · exact q H a xs (Same.refl H) ha (List.Sublist.refl _) (.inr rfl)
  · exact q _ p _ (same_new np) upd_same (cut_sub xs lo hi) (.inl rfl)
def rCatW : R2 := fun x y H Q => ∃ a b xs ys, x = .ref a ∧ y = .ref b ∧ H a = some (.tup xs) ∧ H b = some (.tup ys) ∧ xs.length + ys.length ≤ 1000 ∧ ∀ (H' : Hp) (t : Addr), Same H H' → H' t = some (.tup (xs ++ ys)) → Q (.ref t) H'
theorem op_catW {X : Cx} : OpR X (binaryOp .Add) rCatW := by
  intro pins s σ H x y v u Q I rx ry h
  obtain ⟨a, b, xs, ys, rfl, rfl, ha, hb, l, q⟩ := h
  refine op_catA pins s σ H _ _ v u Q I rx ry ⟨a, b, xs, ys, rfl, rfl, SqT.of ha, SqT.of hb, Nat.le_of_lt (small1000 l), fun e => ?_, fun _ e => ?_, fun _ _ p np => ?_⟩
  · subst e
    exact q H b (Same.refl H) hb
  · subst e
    exact q H a (Same.refl H) (by rw [List.append_nil]; exact ha)
  · exact q _ p (same_new np) upd_same
end SL

namespace SL
open PySem PySem.Spec PyProof.Rows L2
theorem scOdd : FnScope ["_law_pot_here", "_law_part", "_law_some", "_law_changed"] ["_law_pot_here", "_law_part"] (defScope sOdd) := ⟨rfl, rfl, rfl, by decide +kernel, rfl, by decide +kernel, by decide +kernel⟩
theorem flat2 (xs : List V) : (List.replicate (2 : Int).toNat xs).flatten = xs ++ xs := by
  show (List.replicate 2 xs).flatten = xs ++ xs
  simp [List.replicate]
/-- no list of the heap -/
def Nl (H : Hp) (x : V) : Prop := ∀ a xs, x = .ref a → H a ≠ some (.lst xs)
theorem Dt.nl {p : Addr} {H H' : Hp} {x : V} {d : PyData} {n : Nat} (h : Dt H' x d) (k : Kp p H H') (hp : Pot H' p n) : Nl H x := by
  intro a xs e ha
  subst e
  cases h with
  | tup h _ =>
    by_cases z : a = p
    · obtain ⟨ys, hy⟩ := hp.lst
      rw [z, hy] at h
      cases h
    · rw [k _ _ z ha] at h
      cases h
theorem Nl.back {p : Addr} {H H' : Hp} {x : V} {n : Nat} (h : Nl H' x) (k : Kp p H H') (hp : Pot H' p n) : Nl H x := by
  intro a xs e ha
  by_cases z : a = p
  · obtain ⟨ys, hy⟩ := hp.lst
    exact h a ys e (by rw [z]; exact hy)
  · exact h a xs e (k _ _ z ha)
theorem pot_ne {H : Hp} {p t : Addr} {n : Nat} (hp : Pot H p n) (h : H t = none) : t ≠ p := fun e => by
  obtain ⟨xs, hx⟩ := hp.lst
  rw [e, hx] at h
  cases h
section
variable {P : Program} {w : World} {K : PySem.W.Frag} {mg : Str → Option Value} {base : Heap}
def spOdd : Sp := fun vs H Q _ => ∃ (p : Addr) (v : V) (n k c : Nat), vs = [.ref p, v] ∧ Pot H p (n + 1) ∧
  ((∃ i : Int, v = .int i ∧ 0 ≤ i ∧ i ≤ 100) ∨ (∃ t xs, v = .ref t ∧ H t = some (.tup xs) ∧ Ek k c H xs ∧ xs.length ≤ 65)) ∧ k ≤ 10 ∧ 20 ≤ c ∧ c ≤ 2000 ∧
  ∀ (H' : Hp) (x : V) (d : PyData), Kp p H H' → Pot H' p n → Th p H' x d → Good d → Nl H x → ((∃ i : Int, v = .int i) → Dt H' x d ∧ El 1 100 d) → Q x H'
theorem ok_odd {f fP fT : Addr} {fd fdP fdT : FuncData} {k : Nat} (F : Fun K "_law_odd" "_law_odd" sOdd f fd)
    (FP : Fun K "_law_pick" "_law_pick" sPick fP fdP) (bP : Binds K fdP ["_law_pot_here", "_law_some"] []) (gP : mg "_law_pick" = some (.ref fP))
    (FT : Fun K "_law_take" "_law_take" sTake fT fdT) (bT : Binds K fdT ["_law_pot_here", "_law_size"] []) (gT : mg "_law_take" = some (.ref fT))
    (mi : mg "isinstance" = none) (mn : mg "int" = none) (mt : mg "tuple" = none) (mli : mg "list" = none) (mst : mg "str" = none) (ml : mg "len" = none) :
    FnOk P w K mg base CX0 (k + 3) f fd ["_law_pot_here", "_law_part"] spOdd := by
  have GP : FnOk P w K mg base CX0 (k + 2) fP fdP ["_law_pot_here", "_law_some"] spPick := ok_pick FP FT bT gT ml
  refine F.ok scOdd (fun vs H Q E h => ?_) (fun cdv A outer s H vs Q E hr h => ?_)
  · obtain ⟨p, v, n, k, c, rfl, _⟩ := h
    rfl
  · obtain ⟨p, v, n, kk, c, rfl, hp, part, k1, c0, c1, q⟩ := h
    refine ⟨_, pss_cons (ps_set (i := 2) scOdd.nd rfl (.inl rfl) (pe_lst (pa_cons pe_non (pa_cons pe_bl (pa_cons pe_bl (pa_cons pe_int (pa_cons pe_int (pa_cons (pe_un un_neg pe_int) (pa_cons pe_int (pa_cons pe_int
          (pa_cons pe_str (pa_cons pe_str (pa_cons (pe_tup pa_nil) (pa_cons (pe_lst pa_nil) (pa_cons pe_dnewK (pa_cons (pe_tup (pa_cons pe_int pa_nil)) (pa_cons (pe_tup (pa_cons pe_int (pa_cons pe_int pa_nil)))
          (pa_cons (pe_tup (pa_cons pe_int (pa_cons pe_int pa_nil))) (pa_cons (pe_tup (pa_cons (pe_tup pa_nil) (pa_cons (pe_tup pa_nil) pa_nil))) pa_nil)))))))))))))))))))
      (pss_cons (ps_if (pt_val (pe_callB call_isi (by rfl) mi (by decide +kernel) (pa_cons (pv 1) (pa_cons (pe_bltn (v := .ty "tuple") (by rfl) mt (by decide +kernel) rfl) pa_nil))))
        (pss_cons (ps_set (i := 3) scOdd.nd rfl (.inl rfl) (pe_lst (pa_cons (pe_callTy call_list_of (by rfl) mli (by decide +kernel) (pa_cons (pv 1) pa_nil))
            (pa_cons (pe_slice sl_tupW (pv 1) po_none (po_some (pe_un un_neg pe_int))) (pa_cons (pe_slice sl_tupW (pv 1) (po_some pe_int) po_none)
            (pa_cons (pe_op op_catW (pv 1) (pe_slice sl_tupW (pv 1) (po_some (pe_un un_neg pe_int)) po_none)) (pa_cons (pe_revT (pv 1)) (pa_cons (pe_tup (pa_cons (pv 1) pa_nil))
            (pa_cons (pe_op op_catW (pv 1) (pe_tup (pa_cons pe_int pa_nil))) pa_nil)))))))))
          (pss_one (ps_set (i := 2) scOdd.nd rfl (.inl rfl) (pe_op op_cat (pe_slice sl_list (pv 2) po_none (po_some pe_int)) (pe_op op_rep (pv 3) pe_int)))))
        (pss_one (ps_if (pt_val (pe_callB call_isi (by rfl) mi (by decide +kernel) (pa_cons (pv 1) (pa_cons (pe_bltn (v := .ty "int") (by rfl) mn (by decide +kernel) rfl) pa_nil))))
          (pss_one (ps_set (i := 2) scOdd.nd rfl (.inl rfl) (pe_op op_cat (pe_slice sl_list (pv 2) po_none (po_some pe_int)) (pe_op op_rep (pe_lst (pa_cons (pe_op op_add (pv 1) pe_int) (pa_cons (pe_op op_sub (pv 1) pe_int)
            (pa_cons (pe_callTy call_str_int (by rfl) mst (by decide +kernel) (pa_cons (pv 1) pa_nil)) (pa_cons (pe_cmpR op_eq (pv 1) pe_int (nomark _)) (pa_cons (pe_tup (pa_cons (pv 1) pa_nil)) (pa_cons (pe_op op_add (pv 1) pe_int) pa_nil))))))) pe_int)))) pss_nil)))
      (pss_one (ps_ret (pe_call GP hr (by rfl) gP FP.kp bP .nil pass0 (pa_cons (pv 0) (pa_cons (pv 2) pa_nil)))))), ?_⟩
    -- the first list
    refine ⟨1, rfl, Nat.zero_le _, fun a1 n1 => ?_⟩
    refine ⟨Nat.zero_le _, fun a2 n2 a3 n3 => ?_⟩
    refine ⟨Nat.le_of_lt (small1000 (by show 1 ≤ 1000; decide)), fun a4 n4 => ?_⟩
    refine ⟨Nat.le_of_lt (small1000 (by show 2 ≤ 1000; decide)), fun a5 n5 => ?_⟩
    refine ⟨Nat.le_of_lt (small1000 (by show 2 ≤ 1000; decide)), fun a6 n6 => ?_⟩
    refine ⟨Nat.zero_le _, fun a7 n7 => ?_⟩
    refine ⟨Nat.zero_le _, fun a8 n8 => ?_⟩
    refine ⟨Nat.le_of_lt (small1000 (by show 2 ≤ 1000; decide)), fun a9 n9 => ?_⟩
    refine ⟨Nat.le_of_lt (small1000 (by show 17 ≤ 1000; decide)), fun l nl => ?_⟩
    have sm9 : Same H ((upd (upd (upd (upd (upd (upd (upd (upd (upd H a1 (.tup [])) a2 (.lst [])) a3 (.dK [])) a4 (.tup [.int 0])) a5 (.tup [.int 0, .int 1])) a6 (.tup [.int 1, .int 0])) a7 (.tup [])) a8 (.tup [])) a9 (.tup [.ref a7, .ref a8]))) := ((((((((same_new n1).trans (same_new n2)).trans (same_new n3)).trans (same_new n4)).trans (same_new n5)).trans (same_new n6)).trans (same_new n7)).trans (same_new n8)).trans (same_new n9)
    have sm : Same H (upd (upd (upd (upd (upd (upd (upd (upd (upd (upd H a1 (.tup [])) a2 (.lst [])) a3 (.dK [])) a4 (.tup [.int 0])) a5 (.tup [.int 0, .int 1])) a6 (.tup [.int 1, .int 0])) a7 (.tup [])) a8 (.tup [])) a9 (.tup [.ref a7, .ref a8])) l (.lst [.non, .bl true, .bl false, .int 0, .int 1, .int (-1), .int 15, .int 16, .str "", .str "a", .ref a1, .ref a2, .ref a3, .ref a4, .ref a5, .ref a6, .ref a9])) := sm9.trans (same_new nl)
    have hl : (upd (upd (upd (upd (upd (upd (upd (upd (upd (upd H a1 (.tup [])) a2 (.lst [])) a3 (.dK [])) a4 (.tup [.int 0])) a5 (.tup [.int 0, .int 1])) a6 (.tup [.int 1, .int 0])) a7 (.tup [])) a8 (.tup [])) a9 (.tup [.ref a7, .ref a8])) l (.lst [.non, .bl true, .bl false, .int 0, .int 1, .int (-1), .int 15, .int 16, .str "", .str "a", .ref a1, .ref a2, .ref a3, .ref a4, .ref a5, .ref a6, .ref a9])) l = some (.lst [.non, .bl true, .bl false, .int 0, .int 1, .int (-1), .int 15, .int 16, .str "", .str "a", .ref a1, .ref a2, .ref a3, .ref a4, .ref a5, .ref a6, .ref a9]) := upd_same
    have nlp : l ≠ p := pot_ne hp (sm9.free nl)
    generalize upd (upd (upd (upd (upd (upd (upd (upd (upd (upd H a1 (.tup [])) a2 (.lst [])) a3 (.dK [])) a4 (.tup [.int 0])) a5 (.tup [.int 0, .int 1])) a6 (.tup [.int 1, .int 0])) a7 (.tup [])) a8 (.tup [])) a9 (.tup [.ref a7, .ref a8])) l (.lst [.non, .bl true, .bl false, .int 0, .int 1, .int (-1), .int 15, .int 16, .str "", .str "a", .ref a1, .ref a2, .ref a3, .ref a4, .ref a5, .ref a6, .ref a9]) = G at sm hl ⊢
    have hpG : Pot G p (n + 1) := hp.same sm
    clear sm9
    rcases part with ⟨i, rfl, i0, i1⟩ | ⟨t, xs, rfl, ht, ek, few⟩
    · -- a number
      refine ⟨.int i, rfl, .int i, .ty "tuple", _, _, _, rfl, .ty "tuple", (Dt.int i).ty, kit_ty (kit_tuple (.int i)), _, rfl, ?_⟩
      refine ⟨.int i, rfl, .int i, .ty "int", _, _, _, rfl, .ty "int", (Dt.int i).ty, kit_ty (kit_int (.int i)), _, rfl, ?_⟩
      refine ⟨.ref l, rfl, 9, rfl, l, _, rfl, SqL.of hl, fun sl nsl => ?_⟩
      have e9 : cutV [.non, .bl true, .bl false, .int 0, .int 1, .int (-1), .int 15, .int 16, .str "", .str "a", .ref a1, .ref a2, .ref a3, .ref a4, .ref a5, .ref a6, .ref a9] none (some 9) = [.non, .bl true, .bl false, .int 0, .int 1, .int (-1), .int 15, .int 16, .str ""] := rfl
      rw [e9]
      refine ⟨.int i, rfl, i, 1, rfl, rfl, .int i, rfl, i, 1, rfl, rfl, .int i, rfl, i, rfl, ?_, .int i, rfl, rfl, .int i, rfl, Nat.le_of_lt (small1000 (by show 1 ≤ 1000; decide)), fun tt ntt => ?_⟩
      · have y : i.natAbs.log2 ≤ i.natAbs := Nat.log2_le_self _
        omega
      refine ⟨.int i, rfl, i, 16, rfl, rfl, Nat.le_of_lt (small1000 (by show 6 ≤ 1000; decide)), fun m nm => ?_⟩
      refine ⟨m, 2, _, rfl, rfl, upd_same, by decide, by decide, ?_, fun r nr => ?_⟩
      · show 6 * 2 ≤ sizeLine
        decide
      rw [flat2]
      have s1 := same_new (o := .lst [.non, .bl true, .bl false, .int 0, .int 1, .int (-1), .int 15, .int 16, .str ""]) nsl
      have s2 := same_new (o := .tup [.int i]) ntt
      have s3 := same_new (o := .lst [.int (i + 1), .int (i - 1), .str (toString i), .bl (decide (V.int i = V.int 1)), .ref tt, .int (i + 16)]) nm
      have s4 := same_new (o := .lst ([.int (i + 1), .int (i - 1), .str (toString i), .bl (decide (V.int i = V.int 1)), .ref tt, .int (i + 16)] ++ [.int (i + 1), .int (i - 1), .str (toString i), .bl (decide (V.int i = V.int 1)), .ref tt, .int (i + 16)])) nr
      refine ⟨sl, r, _, _, rfl, rfl, s4 _ _ (s3 _ _ (s2 _ _ upd_same)), upd_same, ?_, fun u nu => ?_⟩
      · show 9 + 12 ≤ sizeLine
        decide
      have s5 := same_new (o := .lst ([.non, .bl true, .bl false, .int 0, .int 1, .int (-1), .int 15, .int 16, .str ""] ++ ([.int (i + 1), .int (i - 1), .str (toString i), .bl (decide (V.int i = V.int 1)), .ref tt, .int (i + 16)] ++ [.int (i + 1), .int (i - 1), .str (toString i), .bl (decide (V.int i = V.int 1)), .ref tt, .int (i + 16)]))) nu
      have s15 := (((s1.trans s2).trans s3).trans s4).trans s5
      have nup : u ≠ p := pot_ne (hpG.same (((s1.trans s2).trans s3).trans s4)) nu
      have ntp : tt ≠ p := pot_ne (hpG.same s1) ntt
      refine ⟨.ref p, rfl, .ref u, rfl, p, u, _, n, rfl, hpG.same s15, upd_same, nup, by show 0 < 21; decide, by show 21 ≤ 1000; decide, fun H' j x kp pot' hx => ?_⟩
      have htt : H' tt = some (.tup [.int i]) := kp _ _ ntp (s5 _ _ (s4 _ _ (s3 _ _ upd_same)))
      have kpH : Kp p H H' := (Kp.same (sm.trans s15)).trans kp
      have mem := List.mem_of_getElem? hx
      have fine : ∃ d, Dt H' x d ∧ El 1 100 d ∧ ∀ ds, d = .tuple ds → ds.length ≤ 200 := by
        have flat : ∀ d : PyData, Dt H' x d → El 0 20 d → (∀ ds, d ≠ .tuple ds) → ∃ d, Dt H' x d ∧ El 1 100 d ∧ ∀ ds, d = .tuple ds → ds.length ≤ 200 := fun d h1 h2 h3 => ⟨d, h1, h2.mono (by omega) (by omega), fun ds e => absurd e (h3 ds)⟩
        simp only [List.mem_append, List.mem_cons, List.not_mem_nil, or_false] at mem
        have six : (x = .int (i + 1) ∨ x = .int (i - 1) ∨ x = .str (toString i) ∨ x = .bl (decide (V.int i = V.int 1)) ∨ x = .ref tt ∨ x = .int (i + 16)) → ∃ d, Dt H' x d ∧ El 1 100 d ∧ ∀ ds, d = .tuple ds → ds.length ≤ 200 := by
          rintro (rfl | rfl | rfl | rfl | rfl | rfl)
          · exact flat _ (.int _) (el_int (by omega) (by omega)) (fun _ z => by cases z)
          · exact flat _ (.int _) (el_int (by omega) (by omega)) (fun _ z => by cases z)
          · exact flat _ (.str _) (el_digits i0 i1) (fun _ z => by cases z)
          · exact flat _ (.bl _) (el_bool _) (fun _ z => by cases z)
          · refine ⟨.tuple [.int i], .tup htt (.cons (.int i) .nil), (el_tuple (k := 0) (c := 20) (m := 1) (fun y hy => ?_) (by simp)).mono (by omega) (by omega), fun ds e => ?_⟩
            · rw [List.mem_singleton.mp hy]
              exact el_int (by omega) (by omega)
            · cases e
              simp
          · exact flat _ (.int _) (el_int (by omega) (by omega)) (fun _ z => by cases z)
        rcases mem with (rfl | rfl | rfl | rfl | rfl | rfl | rfl | rfl | rfl) | (h6 | h6)
        · exact flat _ .non el_none (fun _ z => by cases z)
        · exact flat _ (.bl _) (el_bool _) (fun _ z => by cases z)
        · exact flat _ (.bl _) (el_bool _) (fun _ z => by cases z)
        · exact flat _ (.int _) (el_int (by omega) (by omega)) (fun _ z => by cases z)
        · exact flat _ (.int _) (el_int (by omega) (by omega)) (fun _ z => by cases z)
        · exact flat _ (.int _) (el_int (by omega) (by omega)) (fun _ z => by cases z)
        · exact flat _ (.int _) (el_int (by omega) (by omega)) (fun _ z => by cases z)
        · exact flat _ (.int _) (el_int (by omega) (by omega)) (fun _ z => by cases z)
        · exact flat _ (.str _) ⟨by simp [PyData.showable], by simp [PyData.depth], by decide +kernel⟩ (fun _ z => by cases z)
        · exact six h6
        · exact six h6
      obtain ⟨d, f1, f2, f3⟩ := fine
      exact q H' x d kpH pot' (.dat f1) (good_of f2 (by omega) (by omega) f3) (f1.nl kpH pot') (fun _ => ⟨f1, f2⟩)
    · -- a tuple
      have ht0 := sm _ _ ht
      refine ⟨.ref t, rfl, .ref t, .ty "tuple", _, _, true, rfl, .ty "tuple", .base (.tup ht0), kit_ty (by decide +kernel), _, rfl, ?_⟩
      refine ⟨.ref t, rfl, t, xs, rfl, .inr (SqT.of ht0), fun b1 m1 => ?_⟩
      have s1 := same_new (o := .lst xs) m1
      refine ⟨.ref t, rfl, 1, rfl, -1, rfl, t, xs, rfl, s1 _ _ ht0, fun G2 b2 ys2 s2 h2 sub2 _ => ?_⟩
      refine ⟨.ref t, rfl, 1, rfl, t, xs, rfl, s2 _ _ (s1 _ _ ht0), fun G3 b3 ys3 s3 h3 sub3 _ => ?_⟩
      refine ⟨.ref t, rfl, .ref t, rfl, 1, rfl, -1, rfl, t, xs, rfl, s3 _ _ (s2 _ _ (s1 _ _ ht0)), fun G4 b4 ys4 s4 h4 sub4 _ => ?_⟩
      have l4 := sub4.length_le
      refine ⟨t, b4, xs, ys4, rfl, rfl, s4 _ _ (s3 _ _ (s2 _ _ (s1 _ _ ht0))), h4, by omega, fun G5 b5 s5 h5 => ?_⟩
      have ht5 := s5 _ _ (s4 _ _ (s3 _ _ (s2 _ _ (s1 _ _ ht0))))
      refine ⟨.ref t, rfl, t, xs, rfl, SqT.of ht5, fun b6 m6 => ?_⟩
      have s6 := same_new (o := .tup xs.reverse) m6
      refine ⟨.ref t, rfl, Nat.le_of_lt (small1000 (by show 1 ≤ 1000; decide)), fun b7 m7 => ?_⟩
      have s7 := same_new (o := .tup [.ref t]) m7
      refine ⟨.ref t, rfl, Nat.le_of_lt (small1000 (by show 1 ≤ 1000; decide)), fun b8 m8 => ?_⟩
      have s8 := same_new (o := .tup [.int 0]) m8
      refine ⟨t, b8, xs, [.int 0], rfl, rfl, s8 _ _ (s7 _ _ (s6 _ _ ht5)), upd_same, by show xs.length + 1 ≤ 1000; omega, fun G9 b9 s9 h9 => ?_⟩
      refine ⟨Nat.le_of_lt (small1000 (by show 7 ≤ 1000; decide)), fun ch mch => ?_⟩
      have s10 := same_new (o := .lst [.ref b1, .ref b2, .ref b3, .ref b5, .ref b6, .ref b7, .ref b9]) mch
      have s19 := (((((((s1.trans s2).trans s3).trans s4).trans s5).trans s6).trans s7).trans s8).trans s9
      refine ⟨.ref l, rfl, 6, rfl, l, _, rfl, SqL.of (s10 _ _ (s19 _ _ hl)), fun sl nsl => ?_⟩
      have e6 : cutV [.non, .bl true, .bl false, .int 0, .int 1, .int (-1), .int 15, .int 16, .str "", .str "a", .ref a1, .ref a2, .ref a3, .ref a4, .ref a5, .ref a6, .ref a9] none (some 6) = [.non, .bl true, .bl false, .int 0, .int 1, .int (-1)] := rfl
      rw [e6]
      have s11 := same_new (o := .lst [.non, .bl true, .bl false, .int 0, .int 1, .int (-1)]) nsl
      refine ⟨.ref ch, rfl, ch, 2, _, rfl, rfl, s11 _ _ upd_same, by decide, by decide, ?_, fun r nr => ?_⟩
      · show 7 * 2 ≤ sizeLine
        decide
      rw [flat2]
      have s12 := same_new (o := .lst ([.ref b1, .ref b2, .ref b3, .ref b5, .ref b6, .ref b7, .ref b9] ++ [.ref b1, .ref b2, .ref b3, .ref b5, .ref b6, .ref b7, .ref b9])) nr
      refine ⟨sl, r, _, _, rfl, rfl, s12 _ _ upd_same, upd_same, ?_, fun u nu => ?_⟩
      · show 6 + 14 ≤ sizeLine
        decide
      have s13 := same_new (o := .lst ([.non, .bl true, .bl false, .int 0, .int 1, .int (-1)] ++ ([.ref b1, .ref b2, .ref b3, .ref b5, .ref b6, .ref b7, .ref b9] ++ [.ref b1, .ref b2, .ref b3, .ref b5, .ref b6, .ref b7, .ref b9]))) nu
      have s9d := ((s10.trans s11).trans s12).trans s13
      have nup : u ≠ p := pot_ne (hpG.same (s19.trans ((s10.trans s11).trans s12))) nu
      have nb1 : b1 ≠ p := pot_ne hpG m1
      refine ⟨.ref p, rfl, .ref u, rfl, p, u, _, n, rfl, hpG.same (s19.trans s9d), upd_same, nup, by show 0 < 20; decide, by show 20 ≤ 1000; decide, fun H' j x kp pot' hx => ?_⟩
      have kpH : Kp p H H' := (Kp.same (sm.trans (s19.trans s9d))).trans kp
      obtain ⟨px, hpx⟩ := (hpG.same (s19.trans s9d)).lst
      have tk9 : Tk G9 H' := fun b ys e => kp.tk hpx _ _ (s9d _ _ e)
      have tk : Tk H H' := fun b ys e => tk9 _ _ (s19 _ _ (sm _ _ e))
      have ek' : Ek kk c H' xs := ek.keep tk
      have bound : ∀ m : Nat, m ≤ 131 → m * (c + 2) + 3 ≤ 300000 := fun m hm => by
        have := Nat.mul_le_mul hm (show c + 2 ≤ 2002 by omega)
        omega
      have tup : ∀ (b : Addr) (ys : List V), H' b = some (.tup ys) → Ek kk c H' ys → ys.length ≤ 131 → ∃ d, Th p H' (.ref b) d ∧ Good d := by
        intro b ys hb he hlen
        obtain ⟨ds, z1, z2, z3⟩ := he.tuple hb hlen
        refine ⟨.tuple ds, .dat z1, good_of z2 (by omega) (by have := bound 131 (by omega); omega) fun es e => ?_⟩
        cases e
        omega
      have h2' : H' b2 = some (.tup ys2) := tk9 _ _ (s9 _ _ (s8 _ _ (s7 _ _ (s6 _ _ (s5 _ _ (s4 _ _ (s3 _ _ h2)))))))
      have h3' : H' b3 = some (.tup ys3) := tk9 _ _ (s9 _ _ (s8 _ _ (s7 _ _ (s6 _ _ (s5 _ _ (s4 _ _ h3))))))
      have h5' : H' b5 = some (.tup (xs ++ ys4)) := tk9 _ _ (s9 _ _ (s8 _ _ (s7 _ _ (s6 _ _ h5))))
      have h6' : H' b6 = some (.tup xs.reverse) := tk9 _ _ (s9 _ _ (s8 _ _ (s7 _ _ upd_same)))
      have h7' : H' b7 = some (.tup [.ref t]) := tk9 _ _ (s9 _ _ (s8 _ _ upd_same))
      have h9' : H' b9 = some (.tup (xs ++ [.int 0])) := tk9 _ _ h9
      have h1' : H' b1 = some (.lst xs) := kp _ _ nb1 (s9d _ _ (s9 _ _ (s8 _ _ (s7 _ _ (s6 _ _ (s5 _ _ (s4 _ _ (s3 _ _ (s2 _ _ upd_same)))))))))
      have ht' : H' t = some (.tup xs) := tk _ _ ht
      have mem := List.mem_of_getElem? hx
      have flat : ∀ d : PyData, Dt H' x d → El 0 20 d → (∀ ds, d ≠ .tuple ds) → ∃ d, Th p H' x d ∧ Good d := fun d h1 h2 h3 => ⟨d, .dat h1, good_of h2 (by omega) (by omega) fun ds e => absurd e (h3 ds)⟩
      have fine : ∃ d, Th p H' x d ∧ Good d := by
        simp only [List.mem_append, List.mem_cons, List.not_mem_nil, or_false] at mem
        have seven : (x = .ref b1 ∨ x = .ref b2 ∨ x = .ref b3 ∨ x = .ref b5 ∨ x = .ref b6 ∨ x = .ref b7 ∨ x = .ref b9) → ∃ d, Th p H' x d ∧ Good d := by
          rintro (rfl | rfl | rfl | rfl | rfl | rfl | rfl)
          · obtain ⟨ds, z1, z2⟩ := ek'.data
            have z3 := z1.len
            refine ⟨.list ds, .lst h1' nb1 z1, good_of (el_list z2 (show ds.length ≤ 131 by omega)) (by omega) (by have := bound 131 (by omega); omega) fun es e => by cases e⟩
          · exact tup _ _ h2' (ek'.sub sub2) (by have := sub2.length_le; omega)
          · exact tup _ _ h3' (ek'.sub sub3) (by have := sub3.length_le; omega)
          · exact tup _ _ h5' (ek'.app (ek'.sub sub4)) (by rw [List.length_append]; omega)
          · exact tup _ _ h6' (fun y hy => ek' y (List.mem_reverse.mp hy)) (by rw [List.length_reverse]; omega)
          · obtain ⟨ds, z1, z2, z3⟩ := ek'.tuple ht' (show xs.length ≤ 131 by omega)
            refine ⟨.tuple [.tuple ds], .dat (.tup h7' (.cons z1 .nil)), good_of (el_tuple (k := kk + 1) (c := 131 * (c + 2) + 3) (m := 1) (fun y hy => ?_) (by simp)) (by omega) (by have := bound 131 (by omega); omega) fun es e => ?_⟩
            · rw [List.mem_singleton.mp hy]
              exact z2
            · cases e
              simp
          · refine tup _ _ h9' (ek'.app (Ek.one (.int 0) ((el_int (by omega) (by omega)).mono (by omega) c0))) (by rw [List.length_append]; simp; omega)
        rcases mem with (rfl | rfl | rfl | rfl | rfl | rfl) | (h6 | h6)
        · exact flat _ .non el_none (fun _ z => by cases z)
        · exact flat _ (.bl _) (el_bool _) (fun _ z => by cases z)
        · exact flat _ (.bl _) (el_bool _) (fun _ z => by cases z)
        · exact flat _ (.int _) (el_int (by omega) (by omega)) (fun _ z => by cases z)
        · exact flat _ (.int _) (el_int (by omega) (by omega)) (fun _ z => by cases z)
        · exact flat _ (.int _) (el_int (by omega) (by omega)) (fun _ z => by cases z)
        · exact seven h6
        · exact seven h6
      obtain ⟨d, f1, f2⟩ := fine
      have nl' : Nl H x := by
        cases f1 with
        | dat f1 => exact f1.nl kpH pot'
        | @lst a ys ds h3 n3 _ =>
          intro b zs e hb
          cases e
          have bH := kpH _ _ n3 hb
          have hb1 : a = b1 := by
            simp only [List.mem_append, List.mem_cons, List.not_mem_nil, or_false] at mem
            rcases mem with (z | z | z | z | z | z) | ((z | z | z | z | z | z | z) | (z | z | z | z | z | z | z)) <;> cases z <;> first | rfl | (rw [h3] at h2'; cases h2') | (rw [h3] at h3'; cases h3') | (rw [h3] at h5'; cases h5') | (rw [h3] at h6'; cases h6') | (rw [h3] at h7'; cases h7') | (rw [h3] at h9'; cases h9')
          rw [hb1] at hb
          rw [sm _ _ hb] at m1
          cases m1
        | @dct a h3 n3 =>
          intro b zs e hb
          cases e
          rw [kpH _ _ n3 hb] at h3
          cases h3
      exact q H' x d kpH pot' f1 f2 nl' (fun ⟨_, z⟩ => by cases z)
end
end SL

namespace SL
open PySem PySem.Spec PyProof.Rows L2
theorem scBent : FnScope ["_law_pot_here", "_law_thing", "_law_depth", "_law_at"] ["_law_pot_here", "_law_thing", "_law_depth"] (defScope sBent) := ⟨rfl, rfl, rfl, by decide +kernel, rfl, by decide +kernel, by decide +kernel⟩
theorem shaped_tup (ns : List Int) : SeqAt.shaped (.tuple (ns.map PyData.int)) = true := by
  have z := shaped_ints ns
  have e : ((PyData.list (ns.map PyData.int)).canLay0 && decide ((PyData.list (ns.map PyData.int)).depth ≤ 64)) = true := z
  show ((PyData.tuple (ns.map PyData.int)).canLay0 && decide ((PyData.tuple (ns.map PyData.int)).depth ≤ 64)) = true
  simp only [PyData.canLay0, PyData.depth] at e ⊢
  exact e
section
variable {P : Program} {w : World} {K : PySem.W.Frag} {mg : Str → Option Value} {base : Heap}
/-- of a number -/
def spBentI : Sp := fun vs H Q _ => ∃ (p : Addr) (i dep : Int) (n : Nat), vs = [.ref p, .int i, .int dep] ∧ Pot H p (n + 1) ∧ 0 ≤ i ∧ i ≤ 100 ∧
  ∀ (H' : Hp) (x : V) (d : PyData), Kp p H H' → Pot H' p n → Dt H' x d → El 1 100 d → Q x H'
/-- of a tuple of numbers -/
def spBentT : Sp := fun vs H Q _ => ∃ (p t : Addr) (ns : List Int) (n : Nat), vs = [.ref p, .ref t, .int 1] ∧ Pot H p (n + 4) ∧ H t = some (.tup (ns.map V.int)) ∧ 0 < ns.length ∧ ns.length ≤ 64 ∧ (∀ x ∈ ns, 0 ≤ x ∧ x ≤ 100) ∧
  ∀ (H' : Hp) (x : V) (d : PyData), Kp p H H' → Pot H' p n → Th p H' x d → Good d → Nl H x → Q x H'
structure BentK (K : PySem.W.Frag) (mg : Str → Option Value) : Prop where
  mi : mg "isinstance" = none
  mn : mg "int" = none
  mt : mg "tuple" = none
  mli : mg "list" = none
  mst : mg "str" = none
  ml : mg "len" = none
theorem ok_bentI {f fO fP fT : Addr} {fd fdO fdP fdT : FuncData} {k : Nat} (F : Fun K "_law_bent" "_law_bent" sBent f fd) (M : BentK K mg)
    (FO : Fun K "_law_odd" "_law_odd" sOdd fO fdO) (bO : Binds K fdO ["_law_pot_here", "_law_part"] []) (gO : mg "_law_odd" = some (.ref fO))
    (FP : Fun K "_law_pick" "_law_pick" sPick fP fdP) (bP : Binds K fdP ["_law_pot_here", "_law_some"] []) (gP : mg "_law_pick" = some (.ref fP))
    (FT : Fun K "_law_take" "_law_take" sTake fT fdT) (bT : Binds K fdT ["_law_pot_here", "_law_size"] []) (gT : mg "_law_take" = some (.ref fT)) :
    FnOk P w K mg base CX0 (k + 4) f fd ["_law_pot_here", "_law_thing", "_law_depth"] spBentI := by
  have GO : FnOk P w K mg base CX0 (k + 3) fO fdO ["_law_pot_here", "_law_part"] spOdd := ok_odd FO FP bP gP FT bT gT M.mi M.mn M.mt M.mli M.mst M.ml
  have GT : FnOk P w K mg base CX0 (k + 1) fT fdT ["_law_pot_here", "_law_size"] spTake := ok_take FT
  refine F.ok scBent (fun vs H Q E h => ?_) (fun cdv A outer s H vs Q E hr h => ?_)
  · obtain ⟨p, i, dep, n, rfl, _⟩ := h
    rfl
  · obtain ⟨p, i, dep, n, rfl, hp, i0, i1, q⟩ := h
    refine ⟨_, pss_cons (ps_if (PW.pt (pw_or (pt_not (pt_val (pe_callB call_isi (by rfl) M.mi (by decide +kernel) (pa_cons (pv 1) (pa_cons (pe_bltn (v := .ty "tuple") (by rfl) M.mt (by decide +kernel) rfl) pa_nil)))))
          (pw_or (pt_cmpR (op_eqD hr.units) (pv 1) (pe_tup pa_nil) (nomark _)) (pw_or (pt_cmpR op_eq (pv 2) pe_int (nomark _))
            (pw_or1 (pt_cmpR op_eq (pe_call GT (hr.mono (by omega)) (by rfl) gT FT.kp bT .nil pass0 (pa_cons (pv 0) (pa_cons pe_int pa_nil))) pe_int (nomark _)))))))
        (pss_one (ps_ret (pe_call GO hr (by rfl) gO FO.kp bO .nil pass0 (pa_cons (pv 0) (pa_cons (pv 1) pa_nil))))) pss_nil)
      pss_never, ?_⟩
    refine ⟨.int i, rfl, .int i, .ty "tuple", _, _, _, rfl, .ty "tuple", (Dt.int i).ty, kit_ty (kit_tuple (.int i)), _, rfl, ?_⟩
    refine ⟨.ref p, rfl, .int i, rfl, p, .int i, n, 0, 20, rfl, hp, .inl ⟨i, rfl, i0, i1⟩, by omega, by omega, by omega, fun H' x d kp pot' th good _ dt => ?_⟩
    obtain ⟨f1, f2⟩ := dt ⟨i, rfl⟩
    exact q H' x d kp pot' f1 f2
theorem ok_bentT {f fO fP fT : Addr} {fd fdO fdP fdT : FuncData} {k : Nat} (F : Fun K "_law_bent" "_law_bent" sBent f fd) (bF : Binds K fd ["_law_pot_here", "_law_thing", "_law_depth"] []) (gF : mg "_law_bent" = some (.ref f)) (M : BentK K mg)
    (FO : Fun K "_law_odd" "_law_odd" sOdd fO fdO) (bO : Binds K fdO ["_law_pot_here", "_law_part"] []) (gO : mg "_law_odd" = some (.ref fO))
    (FP : Fun K "_law_pick" "_law_pick" sPick fP fdP) (bP : Binds K fdP ["_law_pot_here", "_law_some"] []) (gP : mg "_law_pick" = some (.ref fP))
    (FT : Fun K "_law_take" "_law_take" sTake fT fdT) (bT : Binds K fdT ["_law_pot_here", "_law_size"] []) (gT : mg "_law_take" = some (.ref fT)) :
    FnOk P w K mg base CX0 (k + 5) f fd ["_law_pot_here", "_law_thing", "_law_depth"] spBentT := by
  have GI : FnOk P w K mg base CX0 (k + 4) f fd ["_law_pot_here", "_law_thing", "_law_depth"] spBentI := ok_bentI F M FO bO gO FP bP gP FT bT gT
  have GO : FnOk P w K mg base CX0 (k + 3) fO fdO ["_law_pot_here", "_law_part"] spOdd := ok_odd FO FP bP gP FT bT gT M.mi M.mn M.mt M.mli M.mst M.ml
  have GT : FnOk P w K mg base CX0 (k + 1) fT fdT ["_law_pot_here", "_law_size"] spTake := ok_take FT
  refine F.ok scBent (fun vs H Q E h => ?_) (fun cdv A outer s H vs Q E hr h => ?_)
  · obtain ⟨p, t, ns, n, rfl, _⟩ := h
    rfl
  · obtain ⟨p, t, ns, n, rfl, hp, ht, l0, l1, hns, q⟩ := h
    refine ⟨_, pss_cons (ps_if (PW.pt (pw_or (pt_not (pt_val (pe_callB call_isi (by rfl) M.mi (by decide +kernel) (pa_cons (pv 1) (pa_cons (pe_bltn (v := .ty "tuple") (by rfl) M.mt (by decide +kernel) rfl) pa_nil)))))
          (pw_or (pt_cmpR (op_eqD hr.units) (pv 1) (pe_tup pa_nil) (nomark _)) (pw_or (pt_cmpR op_eq (pv 2) pe_int (nomark _))
            (pw_or1 (pt_cmpR op_eq (pe_call GT (hr.mono (by omega)) (by rfl) gT FT.kp bT .nil pass0 (pa_cons (pv 0) (pa_cons pe_int pa_nil))) pe_int (nomark _)))))))
        (pss_one (ps_ret (pe_call GO (hr.mono (by omega)) (by rfl) gO FO.kp bO .nil pass0 (pa_cons (pv 0) (pa_cons (pv 1) pa_nil))))) pss_nil)
      (pss_cons (ps_set (i := 3) scBent.nd rfl (.inl rfl) (pe_call GT (hr.mono (by omega)) (by rfl) gT FT.kp bT .nil pass0 (pa_cons (pv 0) (pa_cons (pe_callB call_len_seq (by rfl) M.ml PySem.boot_len (pa_cons (pv 1) pa_nil)) pa_nil))))
      (pss_one (ps_ret (pe_op op_catW (pe_op op_catW (pe_slice sl_tupW (pv 1) po_none (po_some (pv 3)))
          (pe_tup (pa_cons (pe_call GI hr (by rfl) gF F.kp bF .nil pass0 (pa_cons (pv 0) (pa_cons (pe_ix ix_tup (pv 1) (pv 3) (fun _ _ => rfl)) (pa_cons (pe_op op_sub (pv 2) pe_int) pa_nil)))) pa_nil)))
        (pe_slice sl_tupW (pv 1) (po_some (pe_op op_add (pv 3) pe_int)) po_none))))), ?_⟩
    have ek : Ek 0 20 H (ns.map V.int) := ek_ints hns
    refine ⟨.ref t, rfl, .ref t, .ty "tuple", _, _, true, rfl, .ty "tuple", .base (.tup ht), kit_ty (by decide +kernel), _, rfl, ?_⟩
    -- thing == ()
    refine ⟨.ref t, rfl, Nat.zero_le _, fun e0 ne0 => ?_⟩
    have s1 := same_new (o := .tup []) ne0
    refine ⟨_, _, .tup (SqT.of (s1 _ _ ht)) (dp_ints K _ ns), .tup (SqT.of upd_same) .nil, shaped_tup ns, shaped_tup [], _, rfl, ite2 (fun e => ?_) (fun _ => ?_)⟩
    · exfalso
      have z : PyData.eqvAll (ns.map PyData.int) (([] : List Int).map PyData.int) = true := by simpa [PyData.eqv] using e
      rw [eqv_ints, decide_eq_true_eq] at z
      rw [z] at l0
      simp at l0
    refine ⟨.int 1, rfl, rfl, _, rfl, ite2 (fun e => ?_) (fun _ => ?_)⟩
    · exact absurd (V.int.inj (of_decide_eq_true e)) (by decide)
    refine ⟨.ref p, rfl, p, 6, n + 3, rfl, hp.same s1, by decide, by decide, fun H2 r kp2 pot2 r0 r1 => ⟨rfl, _, rfl, ite2 (fun e => ?_) (fun _ => ?_)⟩⟩
    · -- something odd
      obtain ⟨px, hpx⟩ := (hp.same s1).lst
      have ht2 : H2 t = some (.tup (ns.map V.int)) := kp2.tk hpx _ _ (s1 _ _ ht)
      refine ⟨.ref p, rfl, .ref t, rfl, p, .ref t, n + 2, 0, 20, rfl, pot2, .inr ⟨t, _, rfl, ht2, ek_ints hns, by rw [List.length_map]; omega⟩, by omega, by omega, by omega, fun H' x d kp pot' th good nl _ => ?_⟩
      exact q H' x d (((Kp.same s1).trans kp2).trans kp) (pot'.less (by omega)) th good (nl.back ((Kp.same s1).trans kp2) pot2)
    · obtain ⟨px, hpx⟩ := (hp.same s1).lst
      have ht2 : H2 t = some (.tup (ns.map V.int)) := kp2.tk hpx _ _ (s1 _ _ ht)
      refine ⟨.ref p, rfl, .ref t, rfl, t, _, rfl, .inr (SqT.of ht2), p, _, n + 2, rfl, pot2, by rw [List.length_map]; omega, by rw [List.length_map]; omega, fun H3 a kp3 pot3 a0 a1 => ?_⟩
      rw [List.length_map] at a1
      obtain ⟨py, hpy⟩ := pot2.lst
      have ht3 : H3 t = some (.tup (ns.map V.int)) := kp3.tk hpy _ _ ht2
      have hi : a.toNat < ns.length := by omega
      have gi : (ns.map V.int)[a.toNat]? = some (.int ns[a.toNat]) := by
        rw [List.getElem?_map, List.getElem?_eq_getElem hi]
        rfl
      have in_ := hns _ (List.getElem_mem hi)
      refine ⟨.ref t, rfl, .int a, rfl, a, rfl, t, _, rfl, ht3, fun G1 b1 ys1 g1 h1 sub1 _ => ?_⟩
      refine ⟨.ref p, rfl, .ref t, rfl, .int a, rfl, t, _, a, _, rfl, rfl, SqT.of (g1 _ _ ht3), at_of (j := a.toNat) (by omega) gi, .int 1, rfl, 1, 1, rfl, rfl, p, ns[a.toNat], _, n + 1, rfl, pot3.same g1, in_.1, in_.2, fun H4 x d kp4 pot4 dt el => ?_⟩
      obtain ⟨pz, hpz⟩ := (pot3.same g1).lst
      have tk4 : Tk G1 H4 := kp4.tk hpz
      refine ⟨Nat.le_of_lt (small1000 (by show 1 ≤ 1000; decide)), fun b2 nb2 => ?_⟩
      have g2 := same_new (o := .tup [x]) nb2
      have len1 := sub1.length_le
      rw [List.length_map] at len1
      refine ⟨b1, b2, ys1, [x], rfl, rfl, g2 _ _ (tk4 _ _ h1), upd_same, by show ys1.length + 1 ≤ 1000; omega, fun G5 b5 g5 h5 => ?_⟩
      refine ⟨.ref t, rfl, .int a, rfl, a, 1, rfl, rfl, a + 1, rfl, t, _, rfl, g5 _ _ (g2 _ _ (tk4 _ _ (g1 _ _ ht3))), fun G6 b6 ys6 g6 h6 sub6 _ => ?_⟩
      have len6 := sub6.length_le
      rw [List.length_map] at len6
      refine ⟨b5, b6, _, ys6, rfl, rfl, g6 _ _ h5, h6, by rw [List.length_append]; show ys1.length + 1 + ys6.length ≤ 1000; omega, fun G7 b7 g7 h7 => ?_⟩
      have kp : Kp p H G7 := ((((((Kp.same s1).trans kp2).trans kp3).trans (Kp.same g1)).trans kp4).trans (Kp.same (((g2.trans g5).trans g6).trans g7)))
      have e7 : Ek 1 100 G7 (ys1 ++ [x] ++ ys6) := by
        refine (Ek.app (Ek.app ?_ ?_) ?_)
        · exact ((ek_ints hns).sub sub1).mono (by omega) (by omega)
        · exact Ek.one (dt.keep (Same.tk (((g2.trans g5).trans g6).trans g7))) el
        · exact ((ek_ints hns).sub sub6).mono (by omega) (by omega)
      have few7 : (ys1 ++ [x] ++ ys6).length ≤ 129 := by
        rw [List.length_append, List.length_append]
        show ys1.length + 1 + ys6.length ≤ 129
        omega
      obtain ⟨ds, z1, z2, z3⟩ := e7.tuple h7 few7
      refine q G7 _ (.tuple ds) kp ((pot4.same (((g2.trans g5).trans g6).trans g7)).less (by omega)) (.dat z1) (good_of z2 (by omega) (by omega) fun es e => ?_) (z1.nl kp (pot4.same (((g2.trans g5).trans g6).trans g7)))
      cases e
      omega
end
end SL

namespace SL
open PySem PySem.Spec PyProof.Rows L2
/-- f(k = v, ..), nothing by place -/
theorem pe_callK0 {X : Cx} {CX : CXT} {k : Nat} {f : Addr} {fd : FuncData} {ps ks : List Str} {sp : Sp} {E : XK} {x : Str} {p pos : Pos} {kws : List Keyword} {tk : TA} {g : List Value → List Value → List Value} {gV : List V → List V → List V}
    (F : FnOk X.prog X.w X.K X.mg X.base CX k f fd ps sp) (room : Room k X.A) (gl : Gl X x) (at_ : X.mg x = some (.ref f)) (keep : PySem.W.keepIn X.K (.ref f) = true) (kb : KBinds X.K fd ps ks g gV) (ps_ : Passes CX X E) (kw : PK X kws tk)
    (h1 : (backToKw pos (keywordEach kws X.env)).all (·.1.isSome) = true := by rfl) (h2 : (backToKw pos (keywordEach kws X.env)).filterMap (·.1) = ks := by rfl)
    (h3 : ((backTo pos (starEach [] X.env)).any (·.1) || (backToKw pos (keywordEach kws X.env)).any (·.1.isNone)) = false := by rfl) (h4 : (x == ("__debug__" : Str)) = false := by decide) :
    PE X (.Call (.Name x p) [] kws pos) (tCallK sp gV E tNil tk) := by
  constructor
  intro pins s σ H Q I h
  refine wpAny_Call_Name_kw (ld_glob I gl at_ ?_ h4)
  refine PySem.W.callWith_KW0 (h₀ := X.base) I.ok.mod.kin keep h1 (thn (kw.run pos pins s σ H _ I h) ?_) h3
  rintro ws s2 ⟨zs, H2, I2, rz, q2⟩
  refine ⟨I2.kIn, ?_⟩
  rw [h2]
  exact run_fnk (us := []) (vs := []) F room kb ps_ I2 .nil rz q2
theorem scAsked : FnScope ["_law_size", "_law_thing", "_law_kept", "_law_due"] ["_law_size", "_law_thing"] (defScope sAsked) := ⟨rfl, rfl, rfl, by decide +kernel, rfl, by decide +kernel, by decide +kernel⟩
theorem Good.fits {d : PyData} (h : Good d) : d.showable = true ∧ d.depth ≤ 50 ∧ d.shown.length ≤ sizeLine := by
  obtain ⟨⟨a, b, c⟩, _⟩ := h
  refine ⟨a, by omega, ?_⟩
  rw [sizeLine_eq]
  omega
section
variable {P : Program} {w : World} {K : PySem.W.Frag} {mg : Str → Option Value} {base : Heap}
/-- all that the text's defs are -/
structure Defs (K : PySem.W.Frag) (mg : Str → Option Value) : Prop where
  within : ∃ f fd, Fun K "is_integer_within" "is_integer_within" sWithin f fd ∧ Binds K fd ["value", "low", "high"] [] ∧ mg "is_integer_within" = some (.ref f)
  order : ∃ f fd, Fun K "is_probe_order" "is_probe_order" sOrder f fd ∧ Binds K fd ["count", "value"] [] ∧ mg "is_probe_order" = some (.ref f)
  pot : ∃ f fd, Fun K "_law_pot" "_law_pot" sPot f fd ∧ Binds K fd ["_law_script", "_law_k"] [] ∧ mg "_law_pot" = some (.ref f)
  take : ∃ f fd, Fun K "_law_take" "_law_take" sTake f fd ∧ Binds K fd ["_law_pot_here", "_law_size"] [] ∧ mg "_law_take" = some (.ref f)
  pick : ∃ f fd, Fun K "_law_pick" "_law_pick" sPick f fd ∧ Binds K fd ["_law_pot_here", "_law_some"] [] ∧ mg "_law_pick" = some (.ref f)
  mixed : ∃ f fd, Fun K "_law_mixed" "_law_mixed" sMixed f fd ∧ Binds K fd ["_law_pot_here", "_law_some"] [] ∧ mg "_law_mixed" = some (.ref f)
  line : ∃ f fd, Fun K "_law_line" "_law_line" sLine f fd ∧ Binds K fd ["_law_size", "_law_begin"] [] ∧ mg "_law_line" = some (.ref f)
  probe : ∃ f fd, Fun K "_law_probe" "_law_probe" sProbe f fd ∧ Binds K fd ["_law_pot_here", "_law_size"] [] ∧ mg "_law_probe" = some (.ref f)
  odd : ∃ f fd, Fun K "_law_odd" "_law_odd" sOdd f fd ∧ Binds K fd ["_law_pot_here", "_law_part"] [] ∧ mg "_law_odd" = some (.ref f)
  bent : ∃ f fd, Fun K "_law_bent" "_law_bent" sBent f fd ∧ Binds K fd ["_law_pot_here", "_law_thing", "_law_depth"] [] ∧ mg "_law_bent" = some (.ref f)
  number : ∃ f fd, Fun K "_law_is_number" "_law_is_number" sNumber f fd ∧ Binds K fd ["_law_thing", "_law_below"] [] ∧ mg "_law_is_number" = some (.ref f)
  isProbe : ∃ f fd, Fun K "_law_is_probe" "_law_is_probe" sIsProbe f fd ∧ Binds K fd ["_law_size", "_law_thing"] [] ∧ mg "_law_is_probe" = some (.ref f)
  asked : ∃ f fd, Fun K "_law_asked" "_law_asked" sAsked f fd ∧ Binds K fd ["_law_size", "_law_thing"] [] ∧ mg "_law_asked" = some (.ref f)
  right : ∃ f fd, Fun K "_law_right" "_law_right" sRight f fd ∧ Binds K fd ["_law_pot_here"] [] ∧ mg "_law_right" = some (.ref f)
  zIsinstance : mg "isinstance" = none
  zInt : mg "int" = none
  zBool : mg "bool" = none
  zTuple : mg "tuple" = none
  zLen : mg "len" = none
  zAll : mg "all" = none
  zSet : mg "set" = none
  zAbs : mg "abs" = none
  zList : mg "list" = none
  zRange : mg "range" = none
  zStr : mg "str" = none
  zSorted : mg "sorted" = none
  zRepr : mg "repr" = none
  zMax : mg "max" = none
  zMin : mg "min" = none
/-! ### asked -/
def spAsked : Sp := fun vs H Q _ => ∃ (p : Addr) (n : Nat) (v : V) (d : PyData), vs = [.int n, v] ∧ Th p H v d ∧ Good d ∧ n ≤ 1000 ∧ ∀ H' : Hp, Same H H' → Q (.bl true) H'
theorem ok_asked {f : Addr} {fd : FuncData} {k : Nat} (F : Fun K "_law_asked" "_law_asked" sAsked f fd) (T : Defs K mg) : FnG P w K mg base (k + 3) f fd ["_law_size", "_law_thing"] spAsked := by
  obtain ⟨fW, fdW, FW, bW, gW⟩ := T.within
  obtain ⟨fO, fdO, FO, bO, gO⟩ := T.order
  obtain ⟨fN, fdN, FN, bN, gN⟩ := T.number
  obtain ⟨fI, fdI, FI, bI, gI⟩ := T.isProbe
  have GO : FnOk P w K mg base CX0 (k + 2) fO fdO ["count", "value"] spOrder := ok_order FO FW bW gW T.zIsinstance T.zInt T.zBool T.zTuple T.zLen T.zAll T.zSet
  have GI : FnOk P w K mg base CX0 (k + 2) fI fdI ["_law_size", "_law_thing"] spIsProbe := ok_isProbe FI FN bN gN T.zIsinstance T.zInt T.zBool T.zTuple T.zAll T.zSorted T.zList T.zRange
  refine fnG_mk F scAsked (fun vs H Q E h => ?_) (fun cdv A outer s H vs Q E hgd hr h => ?_)
  · obtain ⟨p, n, v, d, rfl, _⟩ := h
    rfl
  · obtain ⟨p, n, v, d, rfl, th, good, n1, q⟩ := h
    have gd : (cxOf CX0 P w K mg base ["_law_size", "_law_thing", "_law_kept", "_law_due"] "_law_asked" (defScope sAsked) f cdv A outer s H E).nox.A.guards = some [] := hgd
    refine ⟨_, pss_cons (ps_par (i := 2) (j := 3) (by rfl) scAsked.nd rfl rfl (by decide) rfl rfl (pa_cons (pe_callB (call_reprD gd hr.units) (by rfl) T.zRepr (by decide +kernel) (pa_cons (pv 1) pa_nil))
        (pa_cons (pe_callB (call_reprD gd hr.units) (by rfl) T.zRepr (by decide +kernel) (pa_cons (pe_call GI hr (by rfl) gI FI.kp bI .nil pass0 (pa_cons (pv 0) (pa_cons (pv 1) pa_nil))) pa_nil)) pa_nil)) (by rfl))
      (pss_one (ps_ret (pe_and (pe_cmpR op_eq (pe_callB (call_reprD gd hr.units) (by rfl) T.zRepr (by decide +kernel) (pa_cons (pe_call GO hr (by rfl) gO FO.kp bO .nil pass0 (pa_cons (pv 0) (pa_cons (pv 1) pa_nil))) pa_nil)) (pv 3) (nomark _))
        (pe_one (pe_cmpR op_eq (pe_callB (call_reprD gd hr.units) (by rfl) T.zRepr (by decide +kernel) (pa_cons (pv 1) pa_nil)) (pv 2) (nomark _)))))), ?_⟩
    obtain ⟨g1, g2, g3⟩ := good.fits
    have boolFits : ∀ b : Bool, (PyData.bool b).showable = true ∧ (PyData.bool b).depth ≤ 50 ∧ (PyData.bool b).shown.length ≤ sizeLine := fun b => by
      have z := el_bool b
      refine ⟨z.sh, Nat.le_trans z.dp (by omega), ?_⟩
      have := z.ln
      rw [sizeLine_eq]
      omega
    refine ⟨v, rfl, v, d, rfl, th.da, g1, g2, g3, ?_⟩
    refine ⟨.int n, rfl, v, rfl, p, n, v, d, rfl, th, good.2, n1, fun b H1 s1 ib => ?_⟩
    refine ⟨.bl b, .bool b, rfl, (Th.dat (p := p) (.bl b)).da, (boolFits b).1, (boolFits b).2.1, (boolFits b).2.2, ?_⟩
    refine ⟨_, _, rfl, ?_⟩
    refine ⟨.int n, rfl, v, rfl, p, n, v, d, rfl, th.same s1, good.2, n1, fun b2 H2 s2 ib2 => ?_⟩
    refine ⟨.bl b2, .bool b2, rfl, (Th.dat (p := p) (.bl b2)).da, (boolFits b2).1, (boolFits b2).2.1, (boolFits b2).2.2, ?_⟩
    have eb : b2 = b := by
      cases b <;> cases b2 <;> simp_all
    subst eb
    refine ⟨_, rfl, rfl, _, rfl, ?_⟩
    rw [decide_eq_true rfl]
    refine iteT ?_
    refine ⟨v, rfl, v, d, rfl, ((th.same s1).same s2).da, g1, g2, g3, _, rfl, rfl, ?_⟩
    rw [decide_eq_true rfl]
    exact q H2 (s1.trans s2)
end
end SL

namespace SL
open PySem PySem.Spec PyProof.Rows L2
abbrev nRight : List Str := ["_law_pot_here", "_law_some", "_law_turn", "_law_size", "_law_probe_here", "_law_things", "_law_again", "_law_thing"]
theorem scRight : FnScope nRight ["_law_pot_here"] (defScope sRight) := ⟨rfl, rfl, rfl, by decide +kernel, rfl, by decide +kernel, by decide +kernel⟩
/-- what may be asked about -/
def Fine (p : Addr) (H : Hp) (x : V) : Prop := ∃ d, Th p H x d ∧ Good d
theorem Fine.same {p : Addr} {H H' : Hp} {x : V} (h : Fine p H x) (s : Same H H') : Fine p H' x := by
  obtain ⟨d, a, b⟩ := h
  exact ⟨d, a.same s, b⟩
theorem Fine.kp {p : Addr} {H H' : Hp} {x : V} {n : Nat} (h : Fine p H x) (k : Kp p H H') (hp : Pot H p n) : Fine p H' x := by
  obtain ⟨d, a, b⟩ := h
  obtain ⟨xs, hx⟩ := hp.lst
  exact ⟨d, a.kp k hx, b⟩
/-- a list is grown that is none of these -/
theorem Fine.grow {p D : Addr} {H : Hp} {x : V} {xs ys : List V} (h : Fine p H x) (hD : H D = some (.lst xs)) (ne : x ≠ .ref D) : Fine p (upd H D (.lst ys)) x := by
  obtain ⟨d, a, b⟩ := h
  have tk : Tk H (upd H D (.lst ys)) := fun c zs e => by
    rw [upd_ne (fun z => by rw [z, hD] at e; cases e)]
    exact e
  refine ⟨d, ?_, b⟩
  cases a with
  | dat a => exact .dat (a.keep tk)
  | lst h n al => exact .lst (by rw [upd_ne (fun z => ne (by rw [z]))]; exact h) n (al.keep tk)
  | dct h n => exact .dct (by rw [upd_ne (fun z => ne (by rw [z]))]; exact h) n
theorem fine_flat {p : Addr} {H : Hp} {x : V} {d : PyData} (h : Dt H x d) (e : El 0 20 d) (n : ∀ ds, d ≠ .tuple ds) : Fine p H x := ⟨d, .dat h, good_of e (by omega) (by omega) fun ds z => absurd z (n ds)⟩
theorem fine_tup {p t : Addr} {H : Hp} {xs : List V} (ht : H t = some (.tup xs)) (h : Ek 3 400 H xs) (l : xs.length ≤ 200) : Fine p H (.ref t) := by
  obtain ⟨ds, z1, z2, z3⟩ := h.tuple ht l
  refine ⟨.tuple ds, .dat z1, good_of z2 (by omega) (by omega) fun es e => ?_⟩
  cases e
  omega
theorem fine_lst {p t : Addr} {H : Hp} {xs : List V} (ht : H t = some (.lst xs)) (n : t ≠ p) (h : Ek 3 400 H xs) (l : xs.length ≤ 200) : Fine p H (.ref t) := by
  obtain ⟨ds, z1, z2⟩ := h.data
  have z3 := z1.len
  exact ⟨.list ds, .lst ht n z1, good_of (el_list z2 (show ds.length ≤ 200 by omega)) (by omega) (by omega) fun es e => by cases e⟩
theorem ek_nil {k c : Nat} {H : Hp} : Ek k c H [] := fun y hy => by cases hy
theorem ek_int {H : Hp} {i : Int} (h0 : -10 ≤ i) (h1 : i ≤ 200) {xs : List V} (r : Ek 3 400 H xs) : Ek 3 400 H (.int i :: xs) := (Ek.one (.int i) ((el_int h0 h1).mono (by omega) (by omega))).app r
theorem ek_bool {H : Hp} {b : Bool} {xs : List V} (r : Ek 3 400 H xs) : Ek 3 400 H (.bl b :: xs) := (Ek.one (.bl b) ((el_bool b).mono (by omega) (by omega))).app r
theorem kb_order {K : PySem.W.Frag} {f : Addr} {fd : FuncData} (F : Fun K "is_probe_order" "is_probe_order" sOrder f fd) : KBinds K fd ["count", "value"] ["value", "count"]
    (fun us ws => match us, ws with | [], [a, b] => [b, a] | _, _ => []) (fun us ws => match us, ws with | [], [a, b] => [b, a] | _, _ => []) := by
  obtain ⟨oc, od, kV, doc, pm, an, cdv, ct, osl, rfl, look, code⟩ := F.ex
  constructor
  · intro s us ws _ h
    match us, ws, h with
    | [], [a, b], _ => exact .of_eq rfl
    | [], [], h => cases h
    | [], [_], h => cases h
    | [], _ :: _ :: _ :: _, h => cases h
    | _ :: _, _, h => cases h
  · intro vs us zs ws r rz
    cases r with
    | nil =>
      cases rz with
      | nil => exact .nil
      | cons r1 t1 =>
        cases t1 with
        | nil => exact .nil
        | cons r2 t2 =>
          cases t2 with
          | nil => exact .cons r2 (.cons r1 .nil)
          | cons _ _ => exact .nil
    | cons _ _ => exact .nil
section
variable {P : Program} {w : World} {K : PySem.W.Frag} {mg : Str → Option Value} {base : Heap}
def spRight : Sp := fun vs H Q _ => ∃ p : Addr, vs = [.ref p] ∧ Pot H p 10000 ∧ ∀ H' : Hp, Kp p H H' → Q (.bl true) H'
theorem ok_right {f : Addr} {fd : FuncData} {k : Nat} (F : Fun K "_law_right" "_law_right" sRight f fd) (T : Defs K mg) : FnG P w K mg base (k + 6) f fd ["_law_pot_here"] spRight := by
  obtain ⟨fA, fdA, FA, bA, gA⟩ := T.asked
  obtain ⟨fT, fdT, FT, bT, gT⟩ := T.take
  obtain ⟨fP, fdP, FP, bP, gP⟩ := T.pick
  obtain ⟨fM, fdM, FM, bM, gM⟩ := T.mixed
  obtain ⟨fL, fdL, FL, bL, gL⟩ := T.line
  obtain ⟨fR, fdR, FR, bR, gR⟩ := T.probe
  obtain ⟨fO, fdO, FO, bO, gO⟩ := T.odd
  obtain ⟨fB, fdB, FB, bB, gB⟩ := T.bent
  obtain ⟨fW, fdW, FW, bW, gW⟩ := T.within
  obtain ⟨fC, fdC, FC, bC, gC⟩ := T.order
  have GA : FnG P w K mg base (k + 3) fA fdA ["_law_size", "_law_thing"] spAsked := ok_asked FA T
  have GT : FnOk P w K mg base CX0 (k + 1) fT fdT ["_law_pot_here", "_law_size"] spTake := ok_take FT
  have GP : FnOk P w K mg base CX0 (k + 2) fP fdP ["_law_pot_here", "_law_some"] spPick := ok_pick FP FT bT gT T.zLen
  have GR : FnOk P w K mg base CX0 (k + 3) fR fdR ["_law_pot_here", "_law_size"] spProbe := ok_probe FR FT bT gT FM bM gM FL bL gL T.zLen T.zList T.zTuple T.zRange
  have GB : FnOk P w K mg base CX0 (k + 5) fB fdB ["_law_pot_here", "_law_thing", "_law_depth"] spBentT := ok_bentT FB bB gB ⟨T.zIsinstance, T.zInt, T.zTuple, T.zList, T.zStr, T.zLen⟩ FO bO gO FP bP gP FT bT gT
  have GC : FnOk P w K mg base CX0 (k + 2) fC fdC ["count", "value"] spOrder := ok_order FC FW bW gW T.zIsinstance T.zInt T.zBool T.zTuple T.zLen T.zAll T.zSet
  refine fnG_mk F scRight (fun vs H Q E h => ?_) (fun cdv A outer s H vs Q E hgd hr h => ?_)
  · obtain ⟨p, rfl, _⟩ := h
    rfl
  · obtain ⟨p, rfl, hp, q⟩ := h
    have hr3 : Room (k + 3) _ := hr.mono (by omega)
    have hr2 : Room (k + 2) _ := hr.mono (by omega)
    have hr1 : Room (k + 1) _ := hr.mono (by omega)
    refine ⟨_, pss_cons (ps_set (i := 1) scRight.nd rfl (.inl rfl) (pe_lst (pa_cons pe_non (pa_cons pe_bl (pa_cons pe_int (pa_cons pe_int (pa_cons pe_str (pa_cons pe_str (pa_cons (pe_tup pa_nil) (pa_cons (pe_lst pa_nil) (pa_cons pe_dnewK
          (pa_cons (pe_tup (pa_cons pe_int pa_nil)) (pa_cons (pe_lst (pa_cons pe_int pa_nil)) (pa_cons (pe_tup (pa_cons pe_bl pa_nil)) (pa_cons (pe_tup (pa_cons pe_int (pa_cons pe_int pa_nil))) (pa_cons (pe_tup (pa_cons pe_int pa_nil))
          (pa_cons (pe_tup (pa_cons (pe_tup (pa_cons pe_int pa_nil)) pa_nil)) (pa_cons (pe_tup (pa_cons pe_int (pa_cons pe_bl pa_nil))) pa_nil))))))))))))))))))
      (pss_cons (ps_for PassesOwn.never rfl (pi_range1 rfl T.zRange (pa_cons pe_int pa_nil)) (pg_name (i := 2) scRight.nd rfl (Or.inl rfl))
        (pss_cons (ps_set (i := 3) scRight.nd rfl (.inr rfl) (pe_op op_add pe_int (pe_call GT hr1 (by rfl) gT FT.kp bT .nil pass0 (pa_cons (pv 0) (pa_cons (pe_call GP hr2 (by rfl) gP FP.kp bP .nil pass0 (pa_cons (pv 0) (pa_cons (pe_lst (pa_cons pe_int (pa_cons pe_int (pa_cons pe_int pa_nil)))) pa_nil))) pa_nil)))))
        (pss_cons (ps_set (i := 4) scRight.nd rfl (.inr rfl) (pe_call GR hr3 (by rfl) gR FR.kp bR .nil pass0 (pa_cons (pv 0) (pa_cons (pv 3) pa_nil))))
        (pss_cons (ps_set (i := 5) scRight.nd rfl (.inl rfl) (pe_op op_cat (pe_op op_cat (pe_lst (pa_cons (pv 4) (pa_cons (pe_revT (pv 4)) pa_nil))) (pv 1))
            (pe_lc (own := [("_law_again", 6)]) (g := gName 6) (tt := tYes) rfl scRight.nd (pi_range1 rfl T.zRange (pa_cons pe_int pa_nil)) (blkOk_by (own := [("_law_again", 6)]) (N := nRight) (sc := defScope sRight) (by decide +kernel))
              (fun _ _ _ _ _ => pg_name (i := 6) scRight.nd rfl (Or.inl rfl)) (fun _ _ _ _ _ => pts_nil) (fun _ _ _ _ _ => pe_call GB hr (by rfl) gB FB.kp bB .nil pass0 (pa_cons (pv 0) (pa_cons (pv 4) (pa_cons pe_int pa_nil)))))))
        (pss_cons (ps_if (pt_not (pt_val (pe_callB (cr_all rfl) (by rfl) T.zAll (by decide +kernel) (pa_cons (pe_lc (own := [("_law_thing", 7)]) (g := gName 7) (tt := tYes) rfl scRight.nd (pi_list (pv 5))
              (blkOk_by (own := [("_law_thing", 7)]) (N := nRight) (sc := defScope sRight) (by decide +kernel)) (fun _ _ _ _ _ => pg_name (i := 7) scRight.nd rfl (Or.inl rfl)) (fun _ _ _ _ _ => pts_nil)
              (fun _ _ _ _ _ => pe_callG GA hgd hr3 (by rfl) gA FA.kp bA (pa_cons (pv 3) (pa_cons (pv 7) pa_nil)))) pa_nil)))) (pss_one (ps_ret pe_bl)) pss_nil)
        (pss_cons (ps_if (pt_cmpR op_notBl (pe_callK0 GC hr2 (by rfl) gC FC.kp (kb_order FC) pass0 (pk_cons (pv 4) (pk_cons (pv 3) pk_nil))) pe_bl (nomark _)) (pss_one (ps_ret pe_bl)) pss_nil)
        (pss_one (ps_if (PW.pt (pw_or (PW.pt (pw_and (pt_cmpR op_lt (pv 3) pe_int (nomark _)) (pw_and1 (pt_not (pt_val (pe_callG GA hgd hr3 (by rfl) gA FA.kp bA (pa_cons (pe_op op_add (pv 3) pe_int) (pa_cons (pv 4) pa_nil))))))))
            (pw_or1 (PW.pt (pw_and (pt_cmpR op_gt (pv 3) pe_int (nomark _)) (pw_and1 (pt_not (pt_val (pe_callG GA hgd hr3 (by rfl) gA FA.kp bA (pa_cons (pe_op op_sub (pv 3) pe_int) (pa_cons (pv 4) pa_nil)))))))))))
          (pss_one (ps_ret pe_bl)) pss_nil))))))))
      (pss_one (ps_ret pe_bl))), ?_⟩
    refine ⟨Nat.zero_le _, fun a1 n1 => ?_⟩
    refine ⟨Nat.zero_le _, fun a2 n2 a3 n3 => ?_⟩
    refine ⟨Nat.le_of_lt (small1000 (by show 1 ≤ 1000; decide)), fun a4 n4 => ?_⟩
    refine ⟨Nat.le_of_lt (small1000 (by show 1 ≤ 1000; decide)), fun a5 n5 => ?_⟩
    refine ⟨Nat.le_of_lt (small1000 (by show 1 ≤ 1000; decide)), fun a6 n6 => ?_⟩
    refine ⟨Nat.le_of_lt (small1000 (by show 2 ≤ 1000; decide)), fun a7 n7 => ?_⟩
    refine ⟨Nat.le_of_lt (small1000 (by show 1 ≤ 1000; decide)), fun a8 n8 => ?_⟩
    refine ⟨Nat.le_of_lt (small1000 (by show 1 ≤ 1000; decide)), fun a9 n9 => ?_⟩
    refine ⟨Nat.le_of_lt (small1000 (by show 1 ≤ 1000; decide)), fun a10 n10 => ?_⟩
    refine ⟨Nat.le_of_lt (small1000 (by show 2 ≤ 1000; decide)), fun a11 n11 => ?_⟩
    refine ⟨Nat.le_of_lt (small1000 (by show 16 ≤ 1000; decide)), fun l nl => ?_⟩
    have s1 := same_new (o := .tup []) n1
    have s2 := same_new (o := .lst []) n2
    have s3 := same_new (o := .dK []) n3
    have s4 := same_new (o := .tup [.int 0]) n4
    have s5 := same_new (o := .lst [.int 0]) n5
    have s6 := same_new (o := .tup [.bl true]) n6
    have s7 := same_new (o := .tup [.int 0, .int 0]) n7
    have s8 := same_new (o := .tup [.int 1]) n8
    have s9 := same_new (o := .tup [.int 0]) n9
    have s10 := same_new (o := .tup [.ref a9]) n10
    have s11 := same_new (o := .tup [.int 0, .bl false]) n11
    have s12 := same_new (o := .lst [.non, .bl true, .int 0, .int 1, .str "", .str "0", .ref a1, .ref a2, .ref a3, .ref a4, .ref a5, .ref a6, .ref a7, .ref a8, .ref a10, .ref a11]) nl
    have h1 := (s12 _ _ (s11 _ _ (s10 _ _ (s9 _ _ (s8 _ _ (s7 _ _ (s6 _ _ (s5 _ _ (s4 _ _ (s3 _ _ (s2 _ _ (upd_same (H := _) (a := a1) (o := .tup [])))))))))))))
    have h2 := (s12 _ _ (s11 _ _ (s10 _ _ (s9 _ _ (s8 _ _ (s7 _ _ (s6 _ _ (s5 _ _ (s4 _ _ (s3 _ _ (upd_same (H := _) (a := a2) (o := .lst []))))))))))))
    have h3 := (s12 _ _ (s11 _ _ (s10 _ _ (s9 _ _ (s8 _ _ (s7 _ _ (s6 _ _ (s5 _ _ (s4 _ _ (upd_same (H := _) (a := a3) (o := .dK [])))))))))))
    have h4 := (s12 _ _ (s11 _ _ (s10 _ _ (s9 _ _ (s8 _ _ (s7 _ _ (s6 _ _ (s5 _ _ (upd_same (H := _) (a := a4) (o := .tup [.int 0]))))))))))
    have h5 := (s12 _ _ (s11 _ _ (s10 _ _ (s9 _ _ (s8 _ _ (s7 _ _ (s6 _ _ (upd_same (H := _) (a := a5) (o := .lst [.int 0])))))))))
    have h6 := (s12 _ _ (s11 _ _ (s10 _ _ (s9 _ _ (s8 _ _ (s7 _ _ (upd_same (H := _) (a := a6) (o := .tup [.bl true]))))))))
    have h7 := (s12 _ _ (s11 _ _ (s10 _ _ (s9 _ _ (s8 _ _ (upd_same (H := _) (a := a7) (o := .tup [.int 0, .int 0])))))))
    have h8 := (s12 _ _ (s11 _ _ (s10 _ _ (s9 _ _ (upd_same (H := _) (a := a8) (o := .tup [.int 1]))))))
    have h9 := (s12 _ _ (s11 _ _ (s10 _ _ (upd_same (H := _) (a := a9) (o := .tup [.int 0])))))
    have h10 := (s12 _ _ (s11 _ _ (upd_same (H := _) (a := a10) (o := .tup [.ref a9]))))
    have h11 := (s12 _ _ (upd_same (H := _) (a := a11) (o := .tup [.int 0, .bl false])))
    have smG := (((((((((((s1.trans s2).trans s3).trans s4).trans s5).trans s6).trans s7).trans s8).trans s9).trans s10).trans s11).trans s12)
    have ne2 : a2 ≠ p := pot_ne (hp.same s1) n2
    have ne3 : a3 ≠ p := pot_ne (hp.same (s1.trans s2)) n3
    have ne5 : a5 ≠ p := pot_ne (hp.same (((s1.trans s2).trans s3).trans s4)) n5
    have nel : l ≠ p := pot_ne (hp.same ((((((((((s1.trans s2).trans s3).trans s4).trans s5).trans s6).trans s7).trans s8).trans s9).trans s10).trans s11)) nl
    have hL : (upd (upd (upd (upd (upd (upd (upd (upd (upd (upd (upd (upd H a1 (.tup [])) a2 (.lst [])) a3 (.dK [])) a4 (.tup [.int 0])) a5 (.lst [.int 0])) a6 (.tup [.bl true])) a7 (.tup [.int 0, .int 0])) a8 (.tup [.int 1])) a9 (.tup [.int 0])) a10 (.tup [.ref a9])) a11 (.tup [.int 0, .bl false])) l (.lst [.non, .bl true, .int 0, .int 1, .str "", .str "0", .ref a1, .ref a2, .ref a3, .ref a4, .ref a5, .ref a6, .ref a7, .ref a8, .ref a10, .ref a11])) l = some (HO.lst [.non, .bl true, .int 0, .int 1, .str "", .str "0", .ref a1, .ref a2, .ref a3, .ref a4, .ref a5, .ref a6, .ref a7, .ref a8, .ref a10, .ref a11]) := upd_same
    generalize upd (upd (upd (upd (upd (upd (upd (upd (upd (upd (upd (upd H a1 (.tup [])) a2 (.lst [])) a3 (.dK [])) a4 (.tup [.int 0])) a5 (.lst [.int 0])) a6 (.tup [.bl true])) a7 (.tup [.int 0, .int 0])) a8 (.tup [.int 1])) a9 (.tup [.int 0])) a10 (.tup [.ref a9])) a11 (.tup [.int 0, .bl false])) l (.lst [.non, .bl true, .int 0, .int 1, .str "", .str "0", .ref a1, .ref a2, .ref a3, .ref a4, .ref a5, .ref a6, .ref a7, .ref a8, .ref a10, .ref a11]) = G at h1 h2 h3 h4 h5 h6 h7 h8 h9 h10 h11 smG hL ⊢
    clear s1 s2 s3 s4 s5 s6 s7 s8 s9 s10 s11 s12
    have fine : ∀ x ∈ ([.non, .bl true, .int 0, .int 1, .str "", .str "0", .ref a1, .ref a2, .ref a3, .ref a4, .ref a5, .ref a6, .ref a7, .ref a8, .ref a10, .ref a11] : List V), Fine p G x := by
      intro x mem
      simp only [List.mem_cons, List.not_mem_nil, or_false] at mem
      rcases mem with rfl | rfl | rfl | rfl | rfl | rfl | rfl | rfl | rfl | rfl | rfl | rfl | rfl | rfl | rfl | rfl
      · exact fine_flat .non el_none (fun _ z => by cases z)
      · exact fine_flat (.bl _) (el_bool _) (fun _ z => by cases z)
      · exact fine_flat (.int _) (el_int (by omega) (by omega)) (fun _ z => by cases z)
      · exact fine_flat (.int _) (el_int (by omega) (by omega)) (fun _ z => by cases z)
      · exact fine_flat (.str _) ⟨by simp [PyData.showable], by simp [PyData.depth], by decide +kernel⟩ (fun _ z => by cases z)
      · exact fine_flat (.str _) ⟨by simp [PyData.showable], by simp [PyData.depth], by decide +kernel⟩ (fun _ z => by cases z)
      · exact fine_tup h1 ek_nil (by simp)
      · exact fine_lst h2 ne2 ek_nil (by simp)
      · exact ⟨_, .dct h3 ne3, good_of (k := 1) (c := 2) ⟨by decide +kernel, by decide +kernel, by decide +kernel⟩ (by omega) (by omega) fun _ z => by cases z⟩
      · exact fine_tup h4 (ek_int (by omega) (by omega) ek_nil) (by simp)
      · exact fine_lst h5 ne5 (ek_int (by omega) (by omega) ek_nil) (by simp)
      · exact fine_tup h6 (ek_bool ek_nil) (by simp)
      · exact fine_tup h7 (ek_int (by omega) (by omega) (ek_int (by omega) (by omega) ek_nil)) (by simp)
      · exact fine_tup h8 (ek_int (by omega) (by omega) ek_nil) (by simp)
      · refine fine_tup h10 ?_ (by simp)
        have e9 : Ek 0 20 G [V.int 0] := Ek.one (.int 0) (el_int (by omega) (by omega))
        obtain ⟨ds, z1, z2, z3⟩ := e9.tuple h9 (show 1 ≤ 1 by omega)
        exact Ek.one z1 (z2.mono (by omega) (by omega))
      · exact fine_tup h11 (ek_int (by omega) (by omega) (ek_bool ek_nil)) (by simp)
    have hpG := hp.same smG
    clear h1 h2 h3 h4 h5 h6 h7 h8 h9 h10 h11 n1 n2 n3 n4 n5 n6 n7 n8 n9 n10 n11 nl
    have lenL : ([.non, .bl true, .int 0, .int 1, .str "", .str "0", .ref a1, .ref a2, .ref a3, .ref a4, .ref a5, .ref a6, .ref a7, .ref a8, .ref a10, .ref a11] : List V).length = 16 := rfl
    generalize ([.non, .bl true, .int 0, .int 1, .str "", .str "0", .ref a1, .ref a2, .ref a3, .ref a4, .ref a5, .ref a6, .ref a7, .ref a8, .ref a10, .ref a11] : List V) = some_ at hL fine lenL
    refine ⟨6, rfl, by decide, by decide, for_range (lo := 0) (n := (6 : Int).toNat) (fun i σ G1 => i ≤ 6 ∧ (∃ y2 y3 y4 y5 y6 y7, σ = [some (.ref p), some (.ref l), y2, y3, y4, y5, y6, y7]) ∧ Pot G1 p (1000 * (6 - i)) ∧ Kp p G G1) ?_ ?_ ?_⟩
    · exact ⟨by omega, ⟨_, _, _, _, _, _, rfl⟩, hpG.less (by omega), Kp.refl p G⟩
    · rintro i σ G1 hi ⟨i6, ⟨y2, y3, y4, y5, y6, y7, rfl⟩, pot1, kpG⟩
      have lt6 : i < 6 := hi
      have hl1 := kpG _ _ nel hL
      have fine1 : ∀ x ∈ some_, Fine p G1 x := fun x hx => (fine x hx).kp kpG hpG
      -- size
      refine ⟨.ref p, rfl, .ref p, rfl, Nat.le_of_lt (small1000 (by show 3 ≤ 1000; decide)), fun c nc => ?_⟩
      have g1 := same_new (o := .lst [.int 5, .int 9, .int 64]) nc
      refine ⟨p, c, _, 1000 * (5 - i) + 900, rfl, (pot1.same g1).less (by omega), upd_same, pot_ne pot1 nc, by show 0 < 3; decide, by show 3 ≤ 1000; decide, fun G2 j x kp2 pot2 hx => ?_⟩
      obtain ⟨z, rfl, z0, z1⟩ : ∃ z : Int, x = .int z ∧ 0 < z ∧ z ≤ 64 := by
        have mem := List.mem_of_getElem? hx
        simp only [List.mem_cons, List.not_mem_nil, or_false] at mem
        rcases mem with rfl | rfl | rfl
        · exact ⟨5, rfl, by decide, by decide⟩
        · exact ⟨9, rfl, by decide, by decide⟩
        · exact ⟨64, rfl, by decide, by decide⟩
      refine ⟨p, z, 1000 * (5 - i) + 800, rfl, pot2.less (by omega), z0, by omega, fun G3 r kp3 pot3 r0 r1 => ?_⟩
      obtain ⟨m, rfl⟩ : ∃ m : Nat, r = m := ⟨r.toNat, by omega⟩
      refine ⟨1, m, rfl, rfl, ?_⟩
      have kp13 : Kp p G1 G3 := ((Kp.same g1).trans kp2).trans kp3
      have n0 : 0 < 1 + m := by omega
      have n1 : 1 + m ≤ 64 := by omega
      -- probe
      refine ⟨.ref p, rfl, _, rfl, p, 1 + m, 1000 * (5 - i) + 700, rfl, pot3.less (by omega), n0, n1, fun G4 t ns kp4 pot4 nt ht perm => ?_⟩
      have kp14 : Kp p G1 G4 := kp13.trans kp4
      have lenN : ns.length = 1 + m := by rw [perm.length_eq, R_len]
      have inN : ∀ x ∈ ns, 0 ≤ x ∧ x ≤ 100 := fun x hx => by
        have := R_mem.mp (perm.mem_iff.mp hx)
        omega
      have netp : t ≠ p := pot_ne pot3 nt
      -- things
      refine ⟨.ref t, rfl, .ref t, rfl, t, _, rfl, SqT.of ht, fun t2 nt2 => ?_⟩
      have g4 := same_new (o := .tup (ns.map V.int).reverse) nt2
      refine ⟨Nat.le_of_lt (small1000 (by show 2 ≤ 1000; decide)), fun b1 nb1 => ?_⟩
      have g5 := same_new (o := .lst [.ref t, .ref t2]) nb1
      refine ⟨.ref l, rfl, b1, l, _, _, rfl, rfl, upd_same, g5 _ _ (g4 _ _ (kp14 _ _ nel hl1)), ?_, fun b2 nb2 => ?_⟩
      · show 2 + some_.length ≤ sizeLine
        rw [lenL]
        decide
      have g6 := same_new (o := .lst ([.ref t, .ref t2] ++ some_)) nb2
      have pot6 := pot4.same ((g4.trans g5).trans g6)
      have hb2 : upd (upd (upd G4 t2 (.tup (ns.map V.int).reverse)) b1 (.lst [.ref t, .ref t2])) b2 (.lst ([.ref t, .ref t2] ++ some_)) b2 = some (.lst ([.ref t, .ref t2] ++ some_)) := upd_same
      have ht6 := ((g4.trans g5).trans g6) _ _ ht
      have ht26 := (g5.trans g6) _ _ (upd_same (H := G4) (a := t2) (o := .tup (ns.map V.int).reverse))
      have kp6 := kp14.trans (Kp.same ((g4.trans g5).trans g6))
      have fine6 : ∀ x ∈ [V.ref t, .ref t2] ++ some_, Fine p (upd (upd (upd G4 t2 (.tup (ns.map V.int).reverse)) b1 (.lst [.ref t, .ref t2])) b2 (.lst ([.ref t, .ref t2] ++ some_))) x := by
        intro x hx
        have ekn : ∀ H : Hp, Ek 3 400 H (ns.map V.int) := fun H => (ek_ints inN).mono (by omega) (by omega)
        rcases List.mem_append.mp hx with z | z
        · simp only [List.mem_cons, List.not_mem_nil, or_false] at z
          rcases z with rfl | rfl
          · exact fine_tup ht6 (ekn _) (by rw [List.length_map]; omega)
          · exact fine_tup ht26 (fun y hy => ekn _ y (List.mem_reverse.mp hy)) (by rw [List.length_reverse, List.length_map]; omega)
        · exact (fine1 x z).kp kp6 pot1
      have nb2p : b2 ≠ p := pot_ne (pot4.same (g4.trans g5)) nb2
      generalize upd (upd (upd G4 t2 (.tup (ns.map V.int).reverse)) b1 (.lst [.ref t, .ref t2])) b2 (.lst ([.ref t, .ref t2] ++ some_)) = G6 at pot6 hb2 ht6 kp6 fine6 ⊢
      refine ⟨8, rfl, by decide, by decide, fun D nD => ?_⟩
      have nDp : D ≠ p := pot_ne pot6 nD
      refine lc_range (lo := 0) (n := (8 : Int).toNat) (fun j G7 => ∃ acc : List V, G7 D = some (.lst acc) ∧ acc.length = j ∧ j ≤ 8 ∧ (∀ x ∈ acc, x ≠ .ref D ∧ Fine p G7 x) ∧ Kp p G6 G7 ∧ Pot G7 p (1000 * (5 - i) + 400 + 4 * (8 - j))) ?_ ?_ ?_
      · exact ⟨[], upd_same, rfl, by omega, fun x hx => (by cases hx), Kp.same (same_new nD), (pot6.same (same_new nD)).less (by omega)⟩
      · rintro j G7 hj ⟨acc, hD, lenA, j8, fineA, kp7, pot7⟩
        have lt8 : j < 8 := hj
        obtain ⟨px, hpx⟩ := pot6.lst
        have ht7 : G7 t = some (.tup (ns.map V.int)) := kp7.tk hpx _ _ ht6
        refine ⟨rfl, .ref p, rfl, .ref t, rfl, p, t, ns, 1000 * (5 - i) + 400 + 4 * (8 - (j + 1)), rfl, pot7.less (by omega), ht7, by omega, by omega, inN, fun G8 x d kp8 pot8 th good nl => ?_⟩
        have hD8 : G8 D = some (.lst acc) := kp8 _ _ nDp hD
        refine ⟨acc, hD8, small1000 (by omega), acc ++ [x], upd_same, by rw [List.length_append, lenA]; rfl, by omega, fun y hy => ?_, fun b o nb hb => ?_, ?_⟩
        · rcases List.mem_append.mp hy with z | z
          · obtain ⟨ne, fi⟩ := fineA y z
            exact ⟨ne, (fi.kp kp8 pot7).grow hD8 ne⟩
          · rw [List.mem_singleton.mp z]
            have ne : x ≠ .ref D := fun e => nl D acc e hD
            exact ⟨ne, Fine.grow ⟨d, th, good⟩ hD8 ne⟩
        · rw [upd_ne (ne_of_none hb nD)]
          exact kp8 _ _ nb (kp7 _ _ nb hb)
        · obtain ⟨a1, a2, a3, z1, z2⟩ := pot8
          exact ⟨a1, a2, a3, by rw [upd_ne nDp.symm]; exact z1, z2⟩
      · rintro G7 ⟨acc, hD, lenA, _, fineA, kp7, pot7⟩
        obtain ⟨px, hpx⟩ := pot6.lst
        have ht7 : G7 t = some (.tup (ns.map V.int)) := kp7.tk hpx _ _ ht6
        refine ⟨b2, D, _, _, rfl, rfl, kp7 _ _ nb2p hb2, hD, ?_, fun b3 nb3 => ?_⟩
        · rw [List.length_append, lenL, lenA]
          show 2 + 16 + 8 ≤ sizeLine
          decide
        have g7 := same_new (o := .lst (([.ref t, .ref t2] ++ some_) ++ acc)) nb3
        have hb3 : upd G7 b3 (.lst (([.ref t, .ref t2] ++ some_) ++ acc)) b3 = some (.lst (([.ref t, .ref t2] ++ some_) ++ acc)) := upd_same
        have fine8 : ∀ x ∈ ([V.ref t, .ref t2] ++ some_) ++ acc, Fine p (upd G7 b3 (.lst (([.ref t, .ref t2] ++ some_) ++ acc))) x := by
          intro x hx
          rcases List.mem_append.mp hx with z | z
          · exact ((fine6 x z).kp kp7 pot6).same g7
          · exact (fineA x z).2.same g7
        have pot8 := pot7.same g7
        have kp8 := (kpG.trans (kp6.trans kp7)).trans (Kp.same g7)
        have ht8 := g7 _ _ ht7
        have len8 : (([V.ref t, .ref t2] ++ some_) ++ acc).length = 26 := by
          rw [List.length_append, List.length_append, lenL, lenA]
          rfl
        generalize (([V.ref t, .ref t2] ++ some_) ++ acc) = things at hb3 fine8 len8 pot8 kp8 ht8 ⊢
        generalize upd G7 b3 _ = G8 at hb3 fine8 pot8 kp8 ht8 ⊢
        -- all([..])
        refine ⟨.ref b3, rfl, b3, rfl, ⟨_, SqL.of hb3⟩, fun D2 nD2 => ?_⟩
        refine lc_list (K := K) (a := b3) (xs := things) (fun j G9 => Same G8 G9 ∧ G9 D2 = some (.lst ((List.replicate j true).map V.bl))) ⟨same_new nD2, upd_same⟩ (fun j G9 _ h => SqL.of (h.1 _ _ hb3)) ?_ ?_
        · rintro j x G9 hx ⟨sm9, hD9⟩
          obtain ⟨d, th, good⟩ := (fine8 x (List.mem_of_getElem? hx)).same sm9
          have hj : j < things.length := (List.getElem?_eq_some_iff.mp hx).1
          refine ⟨rfl, _, rfl, x, rfl, p, 1 + m, x, d, rfl, th, good, by omega, fun G10 sm10 => ?_⟩
          refine ⟨_, sm10 _ _ hD9, ?_, fun b o hb => ?_, ?_⟩
          · rw [List.length_map, List.length_replicate]
            exact small1000 (by omega)
          · rw [upd_ne (ne_of_none hb nD2)]
            exact sm10 _ _ (sm9 _ _ hb)
          · rw [upd_same, List.replicate_succ', List.map_append]
            rfl
        · rintro G9 ⟨sm9, hD9⟩
          refine ⟨D2, _, rfl, SqL.of hD9, _, rfl, ?_⟩
          have eall : (List.replicate things.length true).all id = true := by simp
          rw [eall]
          -- is_probe_order(value=.., count=..)
          have ht9 := sm9 _ _ ht8
          have thP : Th p G9 (.ref t) (.tuple (ns.map PyData.int)) := .dat (.tup ht9 (dt_ints ns))
          refine ⟨.ref t, rfl, _, rfl, p, 1 + m, .ref t, _, rfl, thP, fun ds e => ?_, by omega, fun b G10 sm10 ib => ?_⟩
          · cases e
            rw [List.length_map]
            omega
          have eb : b = true := ib.mpr ⟨ns, rfl, perm⟩
          subst eb
          refine ⟨true, true, rfl, rfl, _, rfl, ?_⟩
          have ekn : Ek 3 400 G10 (ns.map V.int) := (ek_ints inN).mono (by omega) (by omega)
          have goodP : Good (.tuple (ns.map PyData.int)) := good_of (el_tuple (k := 0) (c := 20) (m := 64) (fun d hd => by
            obtain ⟨x, hx, rfl⟩ := List.mem_map.mp hd
            have := inN x hx
            exact el_int (by omega) (by omega)) (by rw [List.length_map]; omega)) (by omega) (by omega) fun ds e => by
              cases e
              rw [List.length_map]
              omega
          have thP10 := thP.same sm10
          -- the last tests
          have fin : ∀ G11 : Hp, Same G10 G11 → i + 1 ≤ 6 ∧ Pot G11 p (1000 * (6 - (i + 1))) ∧ Kp p G G11 := fun G11 sm11 =>
            ⟨by omega, (pot8.same ((sm9.trans sm10).trans sm11)).less (by omega), kp8.trans (Kp.same ((sm9.trans sm10).trans sm11))⟩
          have second : ∀ G11 : Hp, Same G10 G11 → True := fun _ _ => trivial
          refine ⟨_, rfl, _, 64, rfl, rfl, _, rfl, ite2 (fun e1 => ?_) (fun e1 => ?_)⟩
          · refine ⟨_, rfl, _, 1, rfl, rfl, .ref t, rfl, p, 1 + m + 1, .ref t, _, rfl, thP10, goodP, by omega, fun G11 sm11 => ⟨_, rfl, ?_⟩⟩
            refine ⟨_, rfl, _, 1, rfl, rfl, _, rfl, ite2 (fun e2 => ?_) (fun e2 => ?_)⟩
            · refine ⟨_, rfl, _, 1, rfl, rfl, .ref t, rfl, p, m, .ref t, _, ?_, thP10.same sm11, goodP, by omega, fun G12 sm12 => ⟨_, rfl, ?_⟩⟩
              · show [V.int (((1 + m : Nat) : Int) - 1), V.ref t] = [V.int (m : Int), V.ref t]
                rw [show (((1 + m : Nat) : Int) - 1) = (m : Int) by omega]
              · obtain ⟨f1, f2, f3⟩ := fin G12 (sm11.trans sm12)
                exact ⟨f1, ⟨_, _, _, _, _, _, rfl⟩, f2, f3⟩
            · obtain ⟨f1, f2, f3⟩ := fin G11 sm11
              exact ⟨f1, ⟨_, _, _, _, _, _, rfl⟩, f2, f3⟩
          · refine ⟨_, rfl, _, 1, rfl, rfl, _, rfl, ite2 (fun e2 => ?_) (fun e2 => ?_)⟩
            · refine ⟨_, rfl, _, 1, rfl, rfl, .ref t, rfl, p, m, .ref t, _, ?_, thP10, goodP, by omega, fun G12 sm12 => ⟨_, rfl, ?_⟩⟩
              · show [V.int (((1 + m : Nat) : Int) - 1), V.ref t] = [V.int (m : Int), V.ref t]
                rw [show (((1 + m : Nat) : Int) - 1) = (m : Int) by omega]
              · obtain ⟨f1, f2, f3⟩ := fin G12 sm12
                exact ⟨f1, ⟨_, _, _, _, _, _, rfl⟩, f2, f3⟩
            · obtain ⟨f1, f2, f3⟩ := fin G10 (Same.refl _)
              exact ⟨f1, ⟨_, _, _, _, _, _, rfl⟩, f2, f3⟩
    · rintro σ G1 ⟨_, ⟨y2, y3, y4, y5, y6, y7, rfl⟩, pot1, kpG⟩
      exact q G1 ((Kp.same smG).trans kpG)
end
end SL

namespace SL
open PySem PySem.Spec PyProof.Rows L2
theorem scLaw : FnScope ["_law_script", "_law_k"] ["_law_script"] (defScope sLaw) := ⟨rfl, rfl, rfl, by decide +kernel, rfl, by decide +kernel, by decide +kernel⟩
section
variable {P : Program} {w : World} {K : PySem.W.Frag} {mg : Str → Option Value} {base : Heap}
def spLaw (K : PySem.W.Frag) : Sp := fun vs H Q _ => ∃ (a : Addr) (ns : List Int), vs = [.ref a] ∧ SqL K H a (ns.map V.int) ∧ ns.length ≤ 63 ∧ ∀ H' : Hp, Q (.bl true) H'
theorem ok_law {f : Addr} {fd : FuncData} (F : Fun K "law" "law" sLaw f fd) (T : Defs K mg) : FnG P w K mg base 7 f fd ["_law_script"] (spLaw K) := by
  obtain ⟨fR, fdR, FR, bR, gR⟩ := T.right
  obtain ⟨fP, fdP, FP, bP, gP⟩ := T.pot
  have GR : FnG P w K mg base 6 fR fdR ["_law_pot_here"] spRight := ok_right (k := 0) FR T
  have GP : FnOk P w K mg base CX0 1 fP fdP ["_law_script", "_law_k"] (spPot K) := ok_pot FP T.zLen T.zAbs
  refine fnG_mk F scLaw (fun vs H Q E h => ?_) (fun cdv A outer s H vs Q E hgd hr h => ?_)
  · obtain ⟨a, ns, rfl, _⟩ := h
    rfl
  · obtain ⟨a, ns, rfl, hS, few, q⟩ := h
    refine ⟨_, pss_one (ps_ret (pe_callB (cr_all rfl) (by rfl) T.zAll (by decide +kernel) (pa_cons (pe_lc (own := [("_law_k", 1)]) (g := gName 1) (tt := tYes) rfl scLaw.nd
      (pi_range1 rfl T.zRange (pa_cons (pe_callB (call_max2 rfl) (by rfl) T.zMax (by decide +kernel) (pa_cons pe_int (pa_cons (pe_callB (call_min2 rfl) (by rfl) T.zMin (by decide +kernel) (pa_cons pe_int (pa_cons (pe_callB call_len_seq (by rfl) T.zLen PySem.boot_len (pa_cons (pv 0) pa_nil)) pa_nil))) pa_nil))) pa_nil))
      (blkOk_by (own := [("_law_k", 1)]) (N := ["_law_script", "_law_k"]) (sc := defScope sLaw) (by decide +kernel)) (fun _ _ _ _ _ => pg_name (i := 1) scLaw.nd rfl (Or.inl rfl)) (fun _ _ _ _ _ => pts_nil)
      (fun _ _ _ _ _ => pe_callG GR hgd hr (by rfl) gR FR.kp bR (pa_cons (pe_call GP (hr.mono (by omega)) (by rfl) gP FP.kp bP .nil pass0 (pa_cons (pv 0) (pa_cons (pv 1) pa_nil))) pa_nil))) pa_nil))), ?_⟩
    refine ⟨.ref a, rfl, a, _, rfl, .inl hS, 3, _, rfl, 1, _, rfl, _, rfl, ?_, ?_, fun D nD => ?_⟩
    · split <;> omega
    · split <;> (try split) <;> omega
    have top : ∀ m : Int, (if (if m < 3 then m else 3) > 1 then (if m < 3 then m else 3) else 1).toNat ≤ 3 := fun m => by
      split <;> (try split) <;> omega
    refine lc_range (lo := 0) (n := _) (fun j G => Same H G ∧ G D = some (.lst ((List.replicate j true).map V.bl))) ⟨same_new nD, upd_same⟩ ?_ ?_
    · rintro j G hj ⟨sm, hD⟩
      have j3 : j < 3 := Nat.lt_of_lt_of_le hj (top _)
      refine ⟨rfl, .ref a, rfl, _, rfl, a, ns, 0 + j, rfl, sm.seq hS, by omega, fun G1 p sm1 np pot => ?_⟩
      refine ⟨p, rfl, pot.less (by omega), fun G2 kp => ?_⟩
      have nDp : D ≠ p := ne_of_none hD np
      refine ⟨_, kp _ _ nDp (sm1 _ _ hD), ?_, fun b o hb => ?_, ?_⟩
      · rw [List.length_map, List.length_replicate]
        exact small1000 (by omega)
      · have nbp : b ≠ p := ne_of_none (sm _ _ hb) np
        rw [upd_ne (ne_of_none hb nD)]
        exact kp _ _ nbp (sm1 _ _ (sm _ _ hb))
      · rw [upd_same, List.replicate_succ', List.map_append]
        rfl
    · rintro G ⟨sm, hD⟩
      refine ⟨D, _, rfl, SqL.of hD, ?_⟩
      rw [show (List.replicate _ true).all id = true by simp]
      exact q G
end
/-! ### what the top has left -/
theorem all_mk {l : PySem.W.OpenLaw} {w : World} {K : PySem.W.Frag} {h : Heap} {mg : Str → Option Value} {fa : Addr} (X : K.In h) (G : h.Ns mainGlobals mg) (hfa : mg "law" = some (.ref fa))
    {f1 f2 f3 f4 f5 f6 f7 f8 f9 f10 f11 f12 f13 f14 f15 : Addr} {od1 an1 od2 an2 od3 an3 od4 an4 od5 an5 od6 an6 od7 an7 od8 an8 od9 an9 od10 an10 od11 an11 od12 an12 od13 an13 od14 an14 od15 an15 : Option Addr} {sl1 sl2 sl3 sl4 sl5 sl6 sl7 sl8 sl9 sl10 sl11 sl12 sl13 sl14 sl15 : Array (Option Value)} {oc1 kV1 dc1 pm1 cd1 ct1 oc2 kV2 dc2 pm2 cd2 ct2 oc3 kV3 dc3 pm3 cd3 ct3 oc4 kV4 dc4 pm4 cd4 ct4 oc5 kV5 dc5 pm5 cd5 ct5 oc6 kV6 dc6 pm6 cd6 ct6 oc7 kV7 dc7 pm7 cd7 ct7 oc8 kV8 dc8 pm8 cd8 ct8 oc9 kV9 dc9 pm9 cd9 ct9 oc10 kV10 dc10 pm10 cd10 ct10 oc11 kV11 dc11 pm11 cd11 ct11 oc12 kV12 dc12 pm12 cd12 ct12 oc13 kV13 dc13 pm13 cd13 ct13 oc14 kV14 dc14 pm14 cd14 ct14 oc15 kV15 dc15 pm15 cd15 ct15 : Value}
    (a1 : PySem.W.nsIn K mainGlobals "is_integer_within" = some (some (.ref f1))) (l1 : K.lookup f1 = some ⟨oc1, od1, .func (PySem.W.fnOf "is_integer_within" "is_integer_within" (defArgs sWithin) (defBody sWithin) (defScope sWithin) .none kV1 dc1 pm1 an1 cd1 ct1), sl1⟩) (c1 : PySem.W.codeIn K cd1 "is_integer_within" = true) (k1 : PySem.W.keepIn K (.ref f1) = true)
    (a2 : PySem.W.nsIn K mainGlobals "is_probe_order" = some (some (.ref f2))) (l2 : K.lookup f2 = some ⟨oc2, od2, .func (PySem.W.fnOf "is_probe_order" "is_probe_order" (defArgs sOrder) (defBody sOrder) (defScope sOrder) .none kV2 dc2 pm2 an2 cd2 ct2), sl2⟩) (c2 : PySem.W.codeIn K cd2 "is_probe_order" = true) (k2 : PySem.W.keepIn K (.ref f2) = true)
    (a3 : PySem.W.nsIn K mainGlobals "_law_pot" = some (some (.ref f3))) (l3 : K.lookup f3 = some ⟨oc3, od3, .func (PySem.W.fnOf "_law_pot" "_law_pot" (defArgs sPot) (defBody sPot) (defScope sPot) .none kV3 dc3 pm3 an3 cd3 ct3), sl3⟩) (c3 : PySem.W.codeIn K cd3 "_law_pot" = true) (k3 : PySem.W.keepIn K (.ref f3) = true)
    (a4 : PySem.W.nsIn K mainGlobals "_law_take" = some (some (.ref f4))) (l4 : K.lookup f4 = some ⟨oc4, od4, .func (PySem.W.fnOf "_law_take" "_law_take" (defArgs sTake) (defBody sTake) (defScope sTake) .none kV4 dc4 pm4 an4 cd4 ct4), sl4⟩) (c4 : PySem.W.codeIn K cd4 "_law_take" = true) (k4 : PySem.W.keepIn K (.ref f4) = true)
    (a5 : PySem.W.nsIn K mainGlobals "_law_pick" = some (some (.ref f5))) (l5 : K.lookup f5 = some ⟨oc5, od5, .func (PySem.W.fnOf "_law_pick" "_law_pick" (defArgs sPick) (defBody sPick) (defScope sPick) .none kV5 dc5 pm5 an5 cd5 ct5), sl5⟩) (c5 : PySem.W.codeIn K cd5 "_law_pick" = true) (k5 : PySem.W.keepIn K (.ref f5) = true)
    (a6 : PySem.W.nsIn K mainGlobals "_law_mixed" = some (some (.ref f6))) (l6 : K.lookup f6 = some ⟨oc6, od6, .func (PySem.W.fnOf "_law_mixed" "_law_mixed" (defArgs sMixed) (defBody sMixed) (defScope sMixed) .none kV6 dc6 pm6 an6 cd6 ct6), sl6⟩) (c6 : PySem.W.codeIn K cd6 "_law_mixed" = true) (k6 : PySem.W.keepIn K (.ref f6) = true)
    (a7 : PySem.W.nsIn K mainGlobals "_law_line" = some (some (.ref f7))) (l7 : K.lookup f7 = some ⟨oc7, od7, .func (PySem.W.fnOf "_law_line" "_law_line" (defArgs sLine) (defBody sLine) (defScope sLine) .none kV7 dc7 pm7 an7 cd7 ct7), sl7⟩) (c7 : PySem.W.codeIn K cd7 "_law_line" = true) (k7 : PySem.W.keepIn K (.ref f7) = true)
    (a8 : PySem.W.nsIn K mainGlobals "_law_probe" = some (some (.ref f8))) (l8 : K.lookup f8 = some ⟨oc8, od8, .func (PySem.W.fnOf "_law_probe" "_law_probe" (defArgs sProbe) (defBody sProbe) (defScope sProbe) .none kV8 dc8 pm8 an8 cd8 ct8), sl8⟩) (c8 : PySem.W.codeIn K cd8 "_law_probe" = true) (k8 : PySem.W.keepIn K (.ref f8) = true)
    (a9 : PySem.W.nsIn K mainGlobals "_law_odd" = some (some (.ref f9))) (l9 : K.lookup f9 = some ⟨oc9, od9, .func (PySem.W.fnOf "_law_odd" "_law_odd" (defArgs sOdd) (defBody sOdd) (defScope sOdd) .none kV9 dc9 pm9 an9 cd9 ct9), sl9⟩) (c9 : PySem.W.codeIn K cd9 "_law_odd" = true) (k9 : PySem.W.keepIn K (.ref f9) = true)
    (a10 : PySem.W.nsIn K mainGlobals "_law_bent" = some (some (.ref f10))) (l10 : K.lookup f10 = some ⟨oc10, od10, .func (PySem.W.fnOf "_law_bent" "_law_bent" (defArgs sBent) (defBody sBent) (defScope sBent) .none kV10 dc10 pm10 an10 cd10 ct10), sl10⟩) (c10 : PySem.W.codeIn K cd10 "_law_bent" = true) (k10 : PySem.W.keepIn K (.ref f10) = true)
    (a11 : PySem.W.nsIn K mainGlobals "_law_is_number" = some (some (.ref f11))) (l11 : K.lookup f11 = some ⟨oc11, od11, .func (PySem.W.fnOf "_law_is_number" "_law_is_number" (defArgs sNumber) (defBody sNumber) (defScope sNumber) .none kV11 dc11 pm11 an11 cd11 ct11), sl11⟩) (c11 : PySem.W.codeIn K cd11 "_law_is_number" = true) (k11 : PySem.W.keepIn K (.ref f11) = true)
    (a12 : PySem.W.nsIn K mainGlobals "_law_is_probe" = some (some (.ref f12))) (l12 : K.lookup f12 = some ⟨oc12, od12, .func (PySem.W.fnOf "_law_is_probe" "_law_is_probe" (defArgs sIsProbe) (defBody sIsProbe) (defScope sIsProbe) .none kV12 dc12 pm12 an12 cd12 ct12), sl12⟩) (c12 : PySem.W.codeIn K cd12 "_law_is_probe" = true) (k12 : PySem.W.keepIn K (.ref f12) = true)
    (a13 : PySem.W.nsIn K mainGlobals "_law_asked" = some (some (.ref f13))) (l13 : K.lookup f13 = some ⟨oc13, od13, .func (PySem.W.fnOf "_law_asked" "_law_asked" (defArgs sAsked) (defBody sAsked) (defScope sAsked) .none kV13 dc13 pm13 an13 cd13 ct13), sl13⟩) (c13 : PySem.W.codeIn K cd13 "_law_asked" = true) (k13 : PySem.W.keepIn K (.ref f13) = true)
    (a14 : PySem.W.nsIn K mainGlobals "_law_right" = some (some (.ref f14))) (l14 : K.lookup f14 = some ⟨oc14, od14, .func (PySem.W.fnOf "_law_right" "_law_right" (defArgs sRight) (defBody sRight) (defScope sRight) .none kV14 dc14 pm14 an14 cd14 ct14), sl14⟩) (c14 : PySem.W.codeIn K cd14 "_law_right" = true) (k14 : PySem.W.keepIn K (.ref f14) = true)
    (a15 : PySem.W.nsIn K mainGlobals "law" = some (some (.ref f15))) (l15 : K.lookup f15 = some ⟨oc15, od15, .func (PySem.W.fnOf "law" "law" (defArgs sLaw) (defBody sLaw) (defScope sLaw) .none kV15 dc15 pm15 an15 cd15 ct15), sl15⟩) (c15 : PySem.W.codeIn K cd15 "law" = true) (k15 : PySem.W.keepIn K (.ref f15) = true)
    (z1 : PySem.W.nsIn K mainGlobals "isinstance" = some none)    (z2 : PySem.W.nsIn K mainGlobals "int" = some none)    (z3 : PySem.W.nsIn K mainGlobals "bool" = some none)    (z4 : PySem.W.nsIn K mainGlobals "tuple" = some none)
    (z5 : PySem.W.nsIn K mainGlobals "len" = some none)    (z6 : PySem.W.nsIn K mainGlobals "all" = some none)    (z7 : PySem.W.nsIn K mainGlobals "set" = some none)    (z8 : PySem.W.nsIn K mainGlobals "abs" = some none)
    (z9 : PySem.W.nsIn K mainGlobals "list" = some none)    (z10 : PySem.W.nsIn K mainGlobals "range" = some none)    (z11 : PySem.W.nsIn K mainGlobals "str" = some none)    (z12 : PySem.W.nsIn K mainGlobals "sorted" = some none)
    (z13 : PySem.W.nsIn K mainGlobals "repr" = some none)    (z14 : PySem.W.nsIn K mainGlobals "max" = some none)    (z15 : PySem.W.nsIn K mainGlobals "min" = some none) :
    ∃ fd : FuncData, (∀ (s : Shared) (v : Value), BindsTo s fd ⟨[v], []⟩ [("_law_script", v)]) ∧ ∀ base : Heap, K.In base → base.Ns mainGlobals mg → FnG l.prog w K mg base 7 fa fd ["_law_script"] (spLaw K) := by
  have e := hfa.symm.trans (PySem.W.mg_of X G a15)
  cases e
  have F1 := fun_mk (st := sWithin) l1 c1 k1
  have F2 := fun_mk (st := sOrder) l2 c2 k2
  have F3 := fun_mk (st := sPot) l3 c3 k3
  have F4 := fun_mk (st := sTake) l4 c4 k4
  have F5 := fun_mk (st := sPick) l5 c5 k5
  have F6 := fun_mk (st := sMixed) l6 c6 k6
  have F7 := fun_mk (st := sLine) l7 c7 k7
  have F8 := fun_mk (st := sProbe) l8 c8 k8
  have F9 := fun_mk (st := sOdd) l9 c9 k9
  have F10 := fun_mk (st := sBent) l10 c10 k10
  have F11 := fun_mk (st := sNumber) l11 c11 k11
  have F12 := fun_mk (st := sIsProbe) l12 c12 k12
  have F13 := fun_mk (st := sAsked) l13 c13 k13
  have F14 := fun_mk (st := sRight) l14 c14 k14
  have F15 := fun_mk (st := sLaw) l15 c15 k15
  have b1 := F1.binds (ps := ["value", "low", "high"]) fun _ _ _ _ _ _ us hl => match us, hl with | [_, _, _], _ => rfl
  have b2 := F2.binds (ps := ["count", "value"]) fun _ _ _ _ _ _ us hl => match us, hl with | [_, _], _ => rfl
  have b3 := F3.binds (ps := ["_law_script", "_law_k"]) fun _ _ _ _ _ _ us hl => match us, hl with | [_, _], _ => rfl
  have b4 := F4.binds (ps := ["_law_pot_here", "_law_size"]) fun _ _ _ _ _ _ us hl => match us, hl with | [_, _], _ => rfl
  have b5 := F5.binds (ps := ["_law_pot_here", "_law_some"]) fun _ _ _ _ _ _ us hl => match us, hl with | [_, _], _ => rfl
  have b6 := F6.binds (ps := ["_law_pot_here", "_law_some"]) fun _ _ _ _ _ _ us hl => match us, hl with | [_, _], _ => rfl
  have b7 := F7.binds (ps := ["_law_size", "_law_begin"]) fun _ _ _ _ _ _ us hl => match us, hl with | [_, _], _ => rfl
  have b8 := F8.binds (ps := ["_law_pot_here", "_law_size"]) fun _ _ _ _ _ _ us hl => match us, hl with | [_, _], _ => rfl
  have b9 := F9.binds (ps := ["_law_pot_here", "_law_part"]) fun _ _ _ _ _ _ us hl => match us, hl with | [_, _], _ => rfl
  have b10 := F10.binds (ps := ["_law_pot_here", "_law_thing", "_law_depth"]) fun _ _ _ _ _ _ us hl => match us, hl with | [_, _, _], _ => rfl
  have b11 := F11.binds (ps := ["_law_thing", "_law_below"]) fun _ _ _ _ _ _ us hl => match us, hl with | [_, _], _ => rfl
  have b12 := F12.binds (ps := ["_law_size", "_law_thing"]) fun _ _ _ _ _ _ us hl => match us, hl with | [_, _], _ => rfl
  have b13 := F13.binds (ps := ["_law_size", "_law_thing"]) fun _ _ _ _ _ _ us hl => match us, hl with | [_, _], _ => rfl
  have b14 := F14.binds (ps := ["_law_pot_here"]) fun _ _ _ _ _ _ us hl => match us, hl with | [_], _ => rfl
  have T : Defs K mg := ⟨⟨_, _, F1, b1, PySem.W.mg_of X G a1⟩, ⟨_, _, F2, b2, PySem.W.mg_of X G a2⟩, ⟨_, _, F3, b3, PySem.W.mg_of X G a3⟩, ⟨_, _, F4, b4, PySem.W.mg_of X G a4⟩, ⟨_, _, F5, b5, PySem.W.mg_of X G a5⟩, ⟨_, _, F6, b6, PySem.W.mg_of X G a6⟩, ⟨_, _, F7, b7, PySem.W.mg_of X G a7⟩, ⟨_, _, F8, b8, PySem.W.mg_of X G a8⟩, ⟨_, _, F9, b9, PySem.W.mg_of X G a9⟩, ⟨_, _, F10, b10, PySem.W.mg_of X G a10⟩, ⟨_, _, F11, b11, PySem.W.mg_of X G a11⟩, ⟨_, _, F12, b12, PySem.W.mg_of X G a12⟩, ⟨_, _, F13, b13, PySem.W.mg_of X G a13⟩, ⟨_, _, F14, b14, PySem.W.mg_of X G a14⟩, PySem.W.mg_none_of X G z1, PySem.W.mg_none_of X G z2, PySem.W.mg_none_of X G z3, PySem.W.mg_none_of X G z4, PySem.W.mg_none_of X G z5, PySem.W.mg_none_of X G z6, PySem.W.mg_none_of X G z7, PySem.W.mg_none_of X G z8, PySem.W.mg_none_of X G z9, PySem.W.mg_none_of X G z10, PySem.W.mg_none_of X G z11, PySem.W.mg_none_of X G z12, PySem.W.mg_none_of X G z13, PySem.W.mg_none_of X G z14, PySem.W.mg_none_of X G z15⟩
  exact ⟨_, fun s v => .of_eq rfl, fun base _ _ => ok_law F15 T⟩
end SL

open PySem PySem.W PyProof.Rows
set_option maxHeartbeats 0 in
theorem PySem.Challenge.cw_samelayout_k01_probe_orders_of_any_value_holds : PySem.Challenge.rw_samelayout_k01_probe_orders_of_any_value.Holds := by
  w_on; o_law; k_head; (case hw => w_witness2)
  k_fill
  refine SL.walkG (l := PySem.Challenge.rw_samelayout_k01_probe_orders_of_any_value) (n := 63) (k := 7) (x := "_law_script") (sp := SL.spLaw) rfl (by decide) rfl ⟨rfl, by decide, by decide⟩ (fun w h Y => PySem.W.kIn_of Y) ?F (fun K _ a ns hl _ hS => ⟨a, ns, rfl, hS, hl, fun _ => rfl⟩)
  case F =>
    intro w mg fa h KX G hmg
    refine' SL.all_mk KX G hmg ?a1 ?l1 ?c1 ?k1 ?a2 ?l2 ?c2 ?k2 ?a3 ?l3 ?c3 ?k3 ?a4 ?l4 ?c4 ?k4 ?a5 ?l5 ?c5 ?k5 ?a6 ?l6 ?c6 ?k6 ?a7 ?l7 ?c7 ?k7 ?a8 ?l8 ?c8 ?k8 ?a9 ?l9 ?c9 ?k9 ?a10 ?l10 ?c10 ?k10 ?a11 ?l11 ?c11 ?k11 ?a12 ?l12 ?c12 ?k12 ?a13 ?l13 ?c13 ?k13 ?a14 ?l14 ?c14 ?k14 ?a15 ?l15 ?c15 ?k15 ?z1 ?z2 ?z3 ?z4 ?z5 ?z6 ?z7 ?z8 ?z9 ?z10 ?z11 ?z12 ?z13 ?z14 ?z15
    (case a1 => k_is); (case l1 => k_is); (case c1 => k_is); (case k1 => k_is)
    (case a2 => k_is); (case l2 => k_is); (case c2 => k_is); (case k2 => k_is)
    (case a3 => k_is); (case l3 => k_is); (case c3 => k_is); (case k3 => k_is)
    (case a4 => k_is); (case l4 => k_is); (case c4 => k_is); (case k4 => k_is)
    (case a5 => k_is); (case l5 => k_is); (case c5 => k_is); (case k5 => k_is)
    (case a6 => k_is); (case l6 => k_is); (case c6 => k_is); (case k6 => k_is)
    (case a7 => k_is); (case l7 => k_is); (case c7 => k_is); (case k7 => k_is)
    (case a8 => k_is); (case l8 => k_is); (case c8 => k_is); (case k8 => k_is)
    (case a9 => k_is); (case l9 => k_is); (case c9 => k_is); (case k9 => k_is)
    (case a10 => k_is); (case l10 => k_is); (case c10 => k_is); (case k10 => k_is)
    (case a11 => k_is); (case l11 => k_is); (case c11 => k_is); (case k11 => k_is)
    (case a12 => k_is); (case l12 => k_is); (case c12 => k_is); (case k12 => k_is)
    (case a13 => k_is); (case l13 => k_is); (case c13 => k_is); (case k13 => k_is)
    (case a14 => k_is); (case l14 => k_is); (case c14 => k_is); (case k14 => k_is)
    (case a15 => k_is); (case l15 => k_is); (case c15 => k_is); (case k15 => k_is)
    (case z1 => k_is); (case z2 => k_is); (case z3 => k_is); (case z4 => k_is); (case z5 => k_is); (case z6 => k_is); (case z7 => k_is); (case z8 => k_is); (case z9 => k_is); (case z10 => k_is); (case z11 => k_is); (case z12 => k_is); (case z13 => k_is); (case z14 => k_is); (case z15 => k_is)
