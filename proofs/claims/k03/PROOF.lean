import PyProof.Rows.All
import Wide.All
import OpenK.AllK
import Wide.FinOn
import HandS.ForMost
import HandS.IsInst
import HandS.Conv
import HandS.SetFor
import HandS.SortInts
import HandS.TupAny
import HandS.Wide
import HandS.Style
import HandS.RaiseMore
import HandS.ExcValue
import PyProof.ReprLen
import HandS.TupMul
import PySem.Challenge.RW_samelayout_k03_probes_of_any_value
set_option Elab.async false
set_option linter.all false
set_option maxRecDepth 100000
namespace SL
open PySem PySem.Spec PyProof.Rows L2

/-! ### defs that are called where no text of an object is being made -/
structure FnG (P : Program) (w : World) (K : PySem.W.Frag) (mg : Str → Option Value) (base : Heap) (k : Nat) (f : Addr)
    (fd : FuncData) (ps : List Str) (sp : Sp) : Prop where
  size : ∀ vs H Q E, sp vs H Q E → vs.length = ps.length
  go : ∀ (A : Around) (outer : List Env) (s : Shared) (H : Hp) (args : Args) (us : List Value) (vs : List V) (Q : VK) (E : XK),
    A.guards = some [] → Room k A → Env0 P w K mg base A outer s H → BindsTo s fd args (ps.zip us) → Vals vs us →
    sp vs H Q E → codeAny (model P w) A (.call (.ref f) args) (CR CX0 outer P w H s Q E) s

section
variable {P : Program} {w : World} {K : PySem.W.Frag} {mg : Str → Option Value} {base : Heap}
theorem fnG_mk {x qual : Str} {st : Stmt} {f : Addr} {fd : FuncData} {N ps : List Str} {k : Nat} {sp : Sp}
    (F : Fun K x qual st f fd) (sc : FnScope N ps (defScope st)) (size : ∀ vs H Q E, sp vs H Q E → vs.length = ps.length)
    (body : ∀ (cdv : Value) (A : Around) (outer : List Env) (s : Shared) (H : Hp) (vs : List V) (Q : VK) (E : XK),
      A.guards = some [] → Room k (A.deeper (envOfC qual (defScope st) s.heap.objs.size f cdv)) → sp vs H Q E →
      ∃ t, PSs (cxOf CX0 P w K mg base N qual (defScope st) f cdv A outer s H E).nox (defBody st) t ∧
        t { nx := fun _ H' => Q .non H', rt := Q } (start N vs) H) : FnG P w K mg base (k + 1) f fd ps sp := by
  obtain ⟨oc, od, kV, doc, pm, an, cdv, ct, osl, rfl, look, code⟩ := F.ex
  constructor
  · exact size
  · intro A outer s H args us vs Q E hgd room env bound rel prom
    have many := size _ _ _ _ prom
    have inK : K.In s.heap := env.mod.kin.keeps fun b o q => (env.bs b o q).1
    have free : s.heap.NoLimit := env.mod.nolimit.keeps fun b o q => (env.bs b o q).1
    refine codeAny_call_function room.depth (inK _ _ look) rfl sc.co sc.gen rfl (PySem.W.codeRec_of inK code)
      (bound _ _ _ _ ?_)
    refine wpAny_newFunctionEnv_cells sc.kind ?kinds fun env' same s1 fresh => ?_
    case kinds =>
      rintro ⟨n, v⟩ here
      rcases sc.par n (List.of_mem_zip here).1 with q | q
      · exact Or.inl q
      · exact Or.inr ⟨q, PySem.W.cellsFrom_some _ _ _ (Or.inl q)⟩
    subst same
    refine ⟨free.keeps fresh.toInCall.keep, codeAny_func ?_⟩
    obtain ⟨t, der, reading⟩ := body cdv A outer s H vs Q E hgd (room.deeper _) prom
    have I := inv_start (CX := CX0) (E := E) sc room.hd env many rel fresh
    refine wpAny_mono (der.nox.run [] s1 (start N vs) H _ I reading) (fun fl s' e => ?_) fun _ _ e => e
    cases fl with
    | ret u => obtain ⟨v, σ', H', J, r', q⟩ := e; exact ⟨v, H', J.os, J.bare, J.base, J.hok, r', q⟩
    | next => obtain ⟨σ', H', J, q⟩ := e; exact ⟨.non, H', J.os, J.bare, J.base, J.hok, rfl, q⟩
    | brk => obtain ⟨_, _, _, q⟩ := e; exact False.elim q
    | cont => obtain ⟨_, _, _, q⟩ := e; exact False.elim q

/-- a call of such a def by its name -/
theorem pe_callG {X : Cx} {k : Nat} {f : Addr} {fd : FuncData} {ps : List Str} {sp : Sp} {x : Str} {p pos : Pos} {e : Expr} {es : List Expr} {t : TA}
    (F : FnG X.prog X.w X.K X.mg X.base k f fd ps sp) (gd : X.A.guards = some []) (room : Room k X.A) (gl : Gl X x)
    (at_ : X.mg x = some (.ref f)) (keep : PySem.W.keepIn X.K (.ref f) = true) (bd : Binds X.K fd ps []) (args : PA X (e :: es) t)
    (h1 : (x == ("__debug__" : Str)) = false := by decide)
    (h2 : starEach (e :: es) X.env = (false, eval e X.env) :: starEach es X.env := by rfl)
    (h3 : (backTo pos (starEach es X.env)).any (·.1) = false := by rfl) :
    PE X (.Call (.Name x p) (e :: es) [] pos) (tCall sp [] E0 t) := by
  constructor
  intro pins s σ H Q I h
  refine wpAny_Call_Name_kw (ld_glob I gl at_ ?_ h1)
  refine PySem.W.callWith_K (h₀ := X.base) I.ok.mod.kin keep (thn (args.run pos pins s σ H _ I h) ?_) h2 h3
  rintro us s1 ⟨vs, H1, I1, rel, q⟩
  refine ⟨I1.kIn, ?_⟩
  have q' : sp vs H1 Q E0 := by have z := q; rw [List.append_nil] at z; exact z
  have long : us.length = ps.length := by rw [← rel.length]; exact F.size _ _ _ _ q'
  have bd' := bd s1 us I1.kIn (by rw [List.append_nil]; exact long)
  rw [List.append_nil] at bd'
  refine wpAny_call (codeAny_mono (F.go X.A X.stack s1 H1 ⟨us, []⟩ us vs Q E0 gd room I1.env0 bd' rel q') fun r s' here => ?_)
  cases r with
  | error _ => exact False.elim here
  | ok fl => cases fl with
    | ret _ => exact I1.after here
    | next => exact False.elim here
    | brk => exact False.elim here
    | cont => exact False.elim here
end

/-! ### the law's own call -/
theorem lawG {P : Program} {w : World} {K : PySem.W.Frag} {mg mb : Str → Option Value} {k : Nat} {fa a : Addr} {fd : FuncData} {x : Str} {sp : Sp}
    {s₁ : Shared} {vs : List Value} {ns : List Int} (inK : K.In s₁.heap) (gl : s₁.heap.Ns mainGlobals mg) (bl : s₁.heap.Ns builtinsNs mb)
    (bb : ∀ x : Str, x ≠ "__name__" → mb x = bootBuiltins x) (lim : s₁.heap.NoLimit) (gens : s₁.gens = #[])
    (obj : s₁.heap.get? a = some { cls := .type "list", data := .seq vs.toArray }) (nums : IntsAre vs ns) (few : ns.length ≤ sizeLine) (room : Room k callerA)
    (F : ∀ base : Heap, K.In base → base.Ns mainGlobals mg → FnG P w K mg base k fa fd [x] sp)
    (bound : ∀ (s : Shared) (u : Value), BindsTo s fd ⟨[u], []⟩ [(x, u)])
    (prom : ∀ H : Hp, Only H → SqL K H a (ns.map V.int) → sp [.ref a] H (fun v _ => v = .bl true) E0) :
    codeAny (model P w) callerA (.call (.ref fa) ⟨[.ref a], []⟩)
      (fun r s' => r = .ok (.ret (.bool true)) ∧ OldK s₁.heap s'.heap ∧ s'.os = s₁.os ∧ AllBare s'.gens) s₁ := by
  have rel := vals_ints nums
  have inner : ∀ H : Hp, Only H → SqL K H a (ns.map V.int) → HOk P w H s₁.heap → (∀ b, H b ≠ none → b = a) →
      (H a ≠ none → K.lookup a = none) → codeAny (model P w) callerA (.call (.ref fa) ⟨[.ref a], []⟩)
        (fun r s' => r = .ok (.ret (.bool true)) ∧ OldK s₁.heap s'.heap ∧ s'.os = s₁.os ∧ AllBare s'.gens) s₁ := by
    intro H only seq hok alone outK
    have dictFree : ∀ {b : Addr} {o : Obj} {es : Array DictEntry} {ep : Nat}, s₁.heap.get? b = some o → o.data = .dict es ep → H b = none := by
      intro b o es ep e d
      cases q : H b with
      | none => rfl
      | some u =>
        obtain rfl : b = a := alone b (by rw [q]; intro z; cases z)
        rw [obj] at e
        cases e
        cases (show Data.seq vs.toArray _ = Data.dict es ep from d)
    have nsH : ∀ {b : Addr} {m : Str → Option Value}, s₁.heap.Ns b m → (hidT s₁.heap H).Ns b m := by
      rintro b m ⟨o, es, ep, e, d, r⟩
      exact ⟨o, es, ep, hidT_get e (dictFree e d), d, r⟩
    have kH : K.In (hidT s₁.heap H) := by
      intro b o e
      refine hidT_get (inK b o e) ?_
      cases q : H b with
      | none => rfl
      | some u =>
        obtain rfl : b = a := alone b (by rw [q]; intro z; cases z)
        rw [outK (by rw [q]; intro z; cases z)] at e
        cases e
    have limH : (hidT s₁.heap H).NoLimit := by
      obtain ⟨mc, h1, h2⟩ := lim
      exact ⟨mc, nsH h1, h2⟩
    have env : Env0 P w K mg (hidT s₁.heap H) callerA [] s₁ H := by
      refine ⟨rfl, ⟨kH, nsH gl, ⟨mb, nsH bl, bb⟩, limH⟩, fun b o e => of_hidT e, Nat.le_of_eq (hidT_size _ _), trivial, ?_, hok, .of_eq gens⟩
      intro b hb
      cases (show b ∈ ([] : List Addr) from hb)
    have G := F _ kH (nsH gl)
    refine codeAny_mono (G.go callerA [] s₁ H ⟨[.ref a], []⟩ [.ref a] [.ref a] _ _ rfl room env (bound s₁ (.ref a)) (.cons rfl .nil) (prom H only seq)) ?_
    intro r s' h
    cases r with
    | error e => exact False.elim h
    | ok fl => cases fl with
      | next => exact False.elim h
      | brk => exact False.elim h
      | cont => exact False.elim h
      | ret u =>
        obtain ⟨v, H', os, bare, un, hok', r', q⟩ := h
        obtain rfl : v = .bl true := q
        obtain rfl : u = Value.bool true := r'
        refine ⟨rfl, OldK.of_keep ?_, os, bare⟩
        intro b o e
        rcases only b with z | ⟨ob, xs, z⟩
        · exact un.keep b o e z (fun m => by cases (show b ∈ ([] : List Addr) from m)) (fun m => by cases m)
        · obtain ⟨e1, _⟩ := hok b _ z
          obtain ⟨e2, _⟩ := hok' b _ (un.frzs b ob _ z)
          rw [e] at e1
          cases e1
          exact e2
  cases written : K.lookup a with
  | some o =>
    have e := inK a o written
    rw [obj] at e
    cases e
    refine inner (fun _ => none) (fun _ => Or.inl rfl) (Or.inr ⟨_, vs.toArray, _, written, rfl, rfl, rfl, ?_, ?_⟩) (fun b u z => by cases z) (fun b z => absurd rfl z) (fun z => absurd rfl z)
    · rw [List.size_toArray, nums.length]; exact few
    · simpa using rel
  | none =>
    have yes : ∀ b : Addr, b = a → (fun b => if b = a then some (HO.frz { cls := .type "list", data := .seq vs.toArray } (.lst (ns.map V.int))) else none) b = some (HO.frz { cls := .type "list", data := .seq vs.toArray } (.lst (ns.map V.int))) := fun b e => if_pos e
    have no : ∀ b : Addr, b ≠ a → (fun b => if b = a then some (HO.frz { cls := .type "list", data := .seq vs.toArray } (.lst (ns.map V.int))) else none) b = none := fun b e => if_neg e
    refine inner (fun b => if b = a then some (HO.frz { cls := .type "list", data := .seq vs.toArray } (.lst (ns.map V.int))) else none) ?_ (Or.inl (Or.inr ⟨_, yes a rfl⟩)) ?_ ?_ (fun _ => written)
    · intro b
      by_cases same : b = a
      · exact Or.inr ⟨_, _, yes b same⟩
      · exact Or.inl (no b same)
    · intro b u z
      by_cases same : b = a
      · have z' := (yes b same).symm.trans z
        cases z'
        subst same
        exact ⟨obj, by rw [List.length_map]; exact few, vs, _, rel, obj⟩
      · have z' := (no b same).symm.trans z
        cases z'
    · intro b z
      by_cases same : b = a
      · exact same
      · exact absurd (no b same) z

theorem walkG {l : PySem.W.OpenLaw} {n k : Nat} {q : Program} {loose : List Str} {XP : (Str → Option Value) → Heap → Prop} {YP : World → Heap → Prop}
    {d : DefRec} {K : Params → PySem.W.Frag} {sp : PySem.W.Frag → Sp} {x : Str} (most : l.most = some n) (few : n ≤ sizeLine)
    (plain : d.params.defaults = []) (room : Room k callerA) (inK : ∀ (w : World) (h : Heap), YP w h → (K w.params).In h)
    (F : ∀ (w : World) (mg : Str → Option Value) (fa : Addr) (h : Heap), (K w.params).In h → h.Ns mainGlobals mg → mg d.name = some (.ref fa) →
      ∃ fd : FuncData, (∀ (s : Shared) (u : Value), BindsTo s fd ⟨[u], []⟩ [(x, u)]) ∧
        ∀ base : Heap, (K w.params).In base → base.Ns mainGlobals mg → FnG l.prog w (K w.params) mg base k fa fd [x] (sp (K w.params)))
    (prom : ∀ (K : PySem.W.Frag) (H : Hp) (a : Addr) (ns : List Int), ns.length ≤ n → Only H → SqL K H a (ns.map V.int) →
      sp K [.ref a] H (fun v _ => v = .bl true) E0) :
    PySem.W.WalkO q loose XP YP l.row.toRowW d [] (fun f vs => PySem.call f vs) := by
  refine Att.attach_call most plain ?_
  intro w s₀ s₁ mg mb fa o pm cd doc a vs ns G Y ho hd hcd named obj nums len gens
  obtain ⟨fd, bound, hF⟩ := F w mg fa _ (inK w _ Y) G.T.g named
  exact lawG (inK w _ Y) G.T.g G.T.b G.T.builtins G.T.nolimit gens obj nums (Nat.le_trans len few) room hF bound
    (fun H only seq => prom (K w.params) H a ns len only seq)
end SL

namespace SL
open PySem PySem.Spec PyProof.Rows L2

/-! ### powers of great numbers -/
theorem op_powB {X : Cx} : OpR X (binaryOp .Pow) (rI (fun i j => 0 ≤ j ∧ (Builtin.Int.intBits i : Int) * j ≤ 2 ^ 27) fun i j => .int (i ^ j.toNat)) :=
  opI fun _ _ _ _ _ _ _ c q => pow_int c.1 c.2 q

/-! ### repr -/
/-- a value that is data: as the layer reads it, or an empty dict -/
def Da (K : PySem.W.Frag) (H : Hp) (v : V) (d : PyData) : Prop :=
  (Dp K H v d ∧ d.hasDict = false) ∨ ∃ a, v = .ref a ∧ H a = some (.dK []) ∧ d = .dict []
def rRepr (K : PySem.W.Frag) : List V → Hp → VK → Prop := fun xs H Q => ∃ v d, xs = [v] ∧ Da K H v d ∧ d.showable = true ∧ d.depth ≤ 50 ∧
  d.shown.length ≤ sizeLine ∧ Q (.str d.shown) H
theorem call_reprD {X : Cx} (gd : X.A.guards = some []) (hu : X.A.units + 64 < cLine) : CallR X (.builtin "repr") (rRepr X.K) := by
  intro pins s σ H xs us Q I r h
  obtain ⟨v, d, rfl, da, sh, dep, siz, q⟩ := h
  cases r with
  | cons r0 rt =>
    cases rt
    rename_i u
    have big : ∀ (a : Addr) (as : List Addr), Reads s.heap (.ref a) d as → (d.hasDict = true → sysModules ∉ as) → u = .ref a →
        wpAny (model X.prog X.w) X.A (call (.builtin "repr") [u]) (EP X pins σ Q) X.xe s := by
      intro a as rd nd e
      subst e
      refine repr_of_reads' rd sh nd gd (by omega) (fun _ _ e => e) (fun h' u tk kept => ?_) siz
      exact ⟨.str d.shown, H, I.kept kept, ⟨_, rfl⟩, q⟩
    rcases da with ⟨dp, nd⟩ | ⟨a, rfl, ha, rfl⟩
    · obtain ⟨as, rd⟩ := Dp.reads I d v u dp r0
      cases dp with
      | non => cases r0; exact PySem.P.repr_of_none ⟨.str _, H, I.tok _, ⟨_, rfl⟩, q⟩
      | bl b => cases r0; exact PySem.P.repr_of_bool ⟨.str _, H, I.tok _, ⟨_, rfl⟩, q⟩
      | int i =>
        obtain ⟨t, rfl⟩ := r0
        exact PySem.P.repr_of_int (of_decide_eq_true sh) ⟨.str _, H, I.tok _, ⟨_, rfl⟩, q⟩
      | str x =>
        obtain ⟨t, rfl⟩ := r0
        exact PySem.P.repr_of_str (h := ⟨.str _, H, I.tok _, ⟨_, rfl⟩, q⟩) siz
      | lst _ _ => cases r0; exact big _ as rd (fun z => by rw [nd] at z; cases z) rfl
      | tup _ _ => cases r0; exact big _ as rd (fun z => by rw [nd] at z; cases z) rfl
    · cases r0
      obtain ⟨_, ns, vs, kv, o, es, ep, e, ex, dt, rest⟩ := I.hok a _ ha
      cases kv
      have e0 : es.toList = [] := by
        have z := rest.2.1.length
        cases q : es.toList with
        | nil => rfl
        | cons x y => rw [q] at z; cases z
      refine big a ([a]) ?_ (fun _ m => ?_) rfl
      · exact Reads.dict (as := []) (bs := []) e ex.1 dt (by rw [e0]; exact .nil) (by rw [e0]; exact .nil)
      · rw [List.mem_singleton] at m
        rw [← m] at ns
        simp at ns

theorem objGet {P : Program} {w : World} {H : Hp} {h : Heap} {a : Addr} {o : HO} (x : ObjOk P w H h a o) : ∃ u, h.get? a = some u := by
  cases o with
  | lst xs => obtain ⟨_, _, _, _, e⟩ := x; exact ⟨_, e⟩
  | tup xs => obtain ⟨_, _, _, _, e, _⟩ := x; exact ⟨_, e⟩
  | dK kvs => obtain ⟨_, _, _, _, _, _, _, e, _⟩ := x; exact ⟨_, e⟩
  | dT kvs => obtain ⟨_, _, _, _, _, _, _, e, _⟩ := x; exact ⟨_, e⟩
  | set S n => obtain ⟨_, _, _, _, e, _⟩ := x; exact ⟨_, e⟩
  | ins C dx fs => obtain ⟨_, _, _, e, _⟩ := x; exact ⟨_, e⟩
  | own y => exact x
  | xd fs => obtain ⟨_, ⟨_, _, _, e, _⟩, _⟩ := x; exact ⟨_, e⟩
  | rng lo hi => obtain ⟨_, _, _, e⟩ := x; exact ⟨_, e⟩
  | frz ob u => obtain ⟨e, _⟩ := x; exact ⟨_, e⟩
  | tbl ps => exact ⟨_, x⟩
  | met f y => exact ⟨_, x⟩
  | ext φ => obtain ⟨_, e, _⟩ := x; exact e

/-! ### sorted(t), a tuple of ints -/
def rSortT (K : PySem.W.Frag) : List V → Hp → VK → Prop := fun vs H Q => ∃ (a : Addr) (ns : List Int), vs = [V.ref a] ∧ SqT K H a (ns.map V.int) ∧
  ∀ (out : List Int) (p : Addr), out.Perm ns → out.Pairwise (· ≤ ·) → H p = none → Q (.ref p) (upd H p (.lst (out.map V.int)))
theorem cr_sortT {X : Cx} : CallR X (.builtin "sorted") (rSortT X.K) := by
  intro pins s σ H vs us Q I r h
  obtain ⟨a, ns, rfl, hs, q⟩ := h
  obtain ⟨its, rv, ht, hz⟩ := I.tuple hs
  obtain ⟨o, ho, hc, n, hd⟩ := id ht
  rw [Vals.ref1 r]
  have nums := rv.ints
  have hz' : its.length ≤ sizeLine := by rw [← rv.length]; exact hz
  refine Calls.call_function_entry kind_sorted plain_sorted entry_sorted (args_sorted1 _) ?_
  unfold Builtin.«sorted»
  refine wpAny_bind (m := checkCount "sorted" 1 1 _) (wpAny_pure ?_)
  refine wpAny_bind (wpAny_collect_seq a (Or.inr rfl) ho hc hd (fun h1 kept => ?_) (by simpa using hz'))
  refine wpAny_bind (wpAny_newList ?_ (by simpa using hz'))
  have hoL : (h1.push (seqObj "list" its.toArray 0)).get? h1.objs.size = some (seqObj "list" its.toArray 0) := Heap.get?_push_size _ rfl
  have new1 : s.heap.get? h1.objs.size = none := by
    cases q : s.heap.get? h1.objs.size with
    | none => rfl
    | some o => exact absurd (Heap.lt_size (kept _ _ q)) (Nat.lt_irrefl _)
  have new2 : H h1.objs.size = none := by
    cases q : H h1.objs.size with
    | none => rfl
    | some u =>
      obtain ⟨o, z⟩ := objGet (I.hok _ _ q)
      rw [new1] at z
      cases z
  show wpAny _ _ _ _ _ { s with heap := h1.push (seqObj "list" its.toArray 0) }
  refine wpAny_bind (wpAny_holding (wpAny_call_entry slot_list_sort ⟨_, hoL, rfl⟩ entry_list_sort
    (SrtO.list_sort_ord SrtO.swo_int hoL hz' (fun h2 => SrtO.ints_sortable nums h2) fun out hs hb => ⟨_, rfl, ?_⟩) (args_list_sort _)))
  refine wpAny_pure ⟨_, rfl, ?_⟩
  obtain ⟨k1, k2, k3⟩ := SrtO.ints_out nums hs hb
  obtain ⟨ep, he⟩ := sortedHeap_at (vs := its) (out := out.toArray) hoL
  have len : ((out.map SrtO.iv).map V.int).length ≤ sizeLine := by
    rw [List.length_map, k2.length_eq]
    rw [List.length_map] at hz
    exact hz
  refine ⟨.ref h1.objs.size, upd H h1.objs.size (.lst ((out.map SrtO.iv).map V.int)), I.laidN (t' := s.toks) ?_ new1 new2 ⟨len, out, ep, vals_of_ints k1, he⟩, rfl, q _ _ k2 k3 new2⟩
  intro b u hu
  have lt : b < h1.objs.size := Heap.lt_size (kept _ _ hu)
  have lt2 : b < (h1.push (seqObj "list" its.toArray 0)).objs.size := by rw [Heap.size_push]; exact Nat.lt_succ_of_lt lt
  rw [sortedHeap_old (Nat.ne_of_lt lt) lt2]
  exact Heap.get?_push_of_some _ (kept _ _ hu)

/-! ### len(set(t)), a tuple of ints -/
def tLenSetT (K : PySem.W.Frag) (ta : TE) : TE := fun σ H Q => ta σ H fun x H1 => ∃ (l : Addr) (ns : List Int), x = .ref l ∧ SqT K H1 l (ns.map V.int) ∧ ns.length ≤ 4000 ∧
  ∀ ks : List Int, ks.Nodup → (∀ k, k ∈ ks ↔ k ∈ ns) → Q (.int (ks.length : Nat)) H1
theorem pe_lenSetT {X : Cx} {a : Expr} {ta : TE} {p p2 q pos : Pos} (g1 : Gl X "len") (m1 : X.mg "len" = none) (g2 : Gl X "set") (m2 : X.mg "set" = none) (ha : PE X a ta)
    (calm : X.calm = true := by rfl) (one : starEach [a] X.env = (false, eval a X.env) :: starEach [] X.env := by rfl) :
    PE X (.Call (.Name "len" p) [.Call (.Name "set" p2) [a] [] q] [] pos) (tLenSetT X.K ta) := by
  constructor
  intro pins s σ H Q I h
  refine Call_ (ld_blt I g1 m1 boot_len ?_)
  refine callWith_builtin1 (args_cons ?_ rfl) rfl rfl
  refine Call_ (ld_blt I g2 m2 boot_set ?_)
  refine callWith_type1 (args_cons (thn (ha.run pins s σ H _ I h) ?_) one) one rfl
  rintro v s1 ⟨x, H1, I1, r1, l, ns, rfl, seq, few, q1⟩
  refine args_nil ?_
  cases r1
  obtain ⟨its, rv, ht, hz⟩ := I1.tuple seq
  refine call_set_tupI ns (I1.ok.hd calm) ht (by simpa using rv.ints) (by unfold scanBound; omega) fun h' tk c hS hc kept => ?_
  refine args_nil ?_
  obtain ⟨o, es, ep, t, ho, ex, dt, _, nd, mem, lt, fits, siz, _⟩ := hS
  have I2 : Inv X pins σ H1 { s1 with heap := h', toks := tk } := I1.kept kept
  have len : (es.toList.map keyOf).length = es.size := by rw [List.length_map, Array.length_toList]
  have few' : (es.size : Int) < 2 ^ 63 := by
    have z : es.size ≤ 4000 := by omega
    omega
  refine call_len_set ho ex dt fits few' ⟨.int es.size, H1, I2.tok _, ⟨_, rfl⟩, ?_⟩
  have z := q1 (es.toList.map keyOf) nd fun k => by rw [← mem k]; simp
  rw [len] at z
  exact z

/-! ### t[::-1], a tuple -/
theorem adjustBack (n : Nat) : Builtin.Slice.sliceAdjust none none (-1) (n : Int) = ((n : Int) - 1, -1) := by
  unfold Builtin.Slice.sliceAdjust
  simp
theorem placesBack (n : Nat) : Builtin.Slice.slicePlaces ((n : Int) - 1) (-1) (-1) = n := by
  unfold Builtin.Slice.slicePlaces
  simp
  omega
theorem pickBack (xs : Array Value) : ((List.range xs.size).filterMap fun (m : Nat) => xs[(((xs.size : Int) - 1) + (m : Int) * (-1)).toNat]?).toArray = xs.toList.reverse.toArray := by
  have e : ((List.range xs.size).filterMap fun (m : Nat) => xs[(((xs.size : Int) - 1) + (m : Int) * (-1)).toNat]?) = ((List.range xs.size).map fun k => xs.size - 1 - k).filterMap (xs[·]?) := by
    rw [List.filterMap_map]
    have all : ∀ l : List Nat, (∀ m ∈ l, m < xs.size) → (l.filterMap fun (m : Nat) => xs[(((xs.size : Int) - 1) + (m : Int) * (-1)).toNat]?) = l.filterMap ((fun x => xs[x]?) ∘ fun k => xs.size - 1 - k) := by
      intro l
      induction l with
      | nil => intro _; rfl
      | cons m r ih =>
        intro hl
        have z : (((xs.size : Int) - 1) + (m : Int) * (-1)).toNat = xs.size - 1 - m := by
          have := hl m List.mem_cons_self
          omega
        rw [List.filterMap_cons, List.filterMap_cons, z, ih fun n hn => hl n (List.mem_cons_of_mem _ hn)]
        rfl
    exact all _ fun m hm => List.mem_range.mp hm
  rw [e, PySem.W.krv_range, List.filterMap_reverse, PySem.W.krv_all]
def tRevT (K : PySem.W.Frag) (te : TE) : TE := fun σ H Q => te σ H fun x H1 => ∃ a xs, x = .ref a ∧ SqT K H1 a xs ∧ ∀ p, H1 p = none → Q (.ref p) (upd H1 p (.tup xs.reverse))
theorem pe_revT {X : Cx} {e : Expr} {te : TE} {k : Nat} {p1 p2 p3 pos : Pos} (he : PE X e te) :
    PE X (.Subscript e (.Slice none none (some (.UnaryOp .USub (.Constant (.int 1) k p1) p2)) p3) pos) (tRevT X.K te) := by
  constructor
  intro pins s σ H Q I h
  refine Subscript_ (thn (he.run pins s σ H _ I h) ?_)
  rintro v s1 ⟨x, H1, I1, r1, a, xs, rfl, hx, q⟩
  cases r1
  have step : PO X (some (.UnaryOp .USub (.Constant (.int 1) k p1) p2)) (tPart (tUn (rU fun i => .int (-i)) (tC (.int 1)))) := po_some (pe_un un_neg pe_int)
  refine wpAny_Slice (thn (po_none.run pins s1 σ H1 (fun o G => o = none ∧ G = H1) I1 ⟨rfl, rfl⟩) ?_)
  rintro vl s2 ⟨l, H2, I2, pl, rfl, rfl⟩
  refine thn (po_none.run pins s2 σ H2 (fun o G => o = none ∧ G = H2) I2 ⟨rfl, rfl⟩) ?_
  rintro vu s3 ⟨u, H3, I3, pu, rfl, rfl⟩
  refine thn (step.run pins s3 σ H3 (fun o G => o = some (-1) ∧ G = H3) I3 ⟨1, rfl, -1, rfl, rfl, rfl⟩) ?_
  rintro vs s4 ⟨o, H4, I4, ps, rfl, rfl⟩
  have I5 : Inv X pins σ H4 { s4 with heap := s4.heap.push { cls := .type "slice", data := .fields #[vl, vu, vs] } } := I4.kept (t' := s4.toks) fun b ob z => Heap.get?_push_of_some _ z
  obtain ⟨its, r, ht, hz⟩ := I5.tuple hx
  have len := r.length
  show wpAny (model X.prog X.w) X.A (subscriptTail e (.Slice none none (some (.UnaryOp .USub (.Constant (.int 1) k p1) p2)) p3) (.ref a) (.ref s4.heap.objs.size)) (EP X pins σ Q) X.xe
    { s4 with heap := s4.heap.push { cls := .type "slice", data := .fields #[vl, vu, vs] } }
  refine tail_any (ops := [.ref a, .ref s4.heap.objs.size]) ht.typeIs PyProof.Rows.slot_tuple_getitem.lookup ?_ (by with_unfolding_all rfl)
  have hsl : Heap.IsSliceOf (s4.heap.push { cls := .type "slice", data := .fields #[vl, vu, vs] }) s4.heap.objs.size vl vu vs := Heap.IsSliceOf.new _ vl vu vs
  obtain ⟨os, hos, hcs, hds⟩ := id hsl
  have typ : Shared.TypeIs { s4 with heap := s4.heap.push { cls := .type "slice", data := .fields #[vl, vu, vs] } } (.ref s4.heap.objs.size) "slice" := ⟨os, hos, hcs⟩
  have small : sizeOk (.seq its.reverse.toArray) := by
    show its.reverse.toArray.size ≤ sizeLine
    rw [List.size_toArray, List.length_reverse, ← len]
    exact hz
  have fin : EP X pins σ Q (.ref (s4.heap.push { cls := .type "slice", data := .fields #[vl, vu, vs] }).objs.size)
      { s4 with heap := (s4.heap.push { cls := .type "slice", data := .fields #[vl, vu, vs] }).push { cls := .type "tuple", data := .seq its.reverse.toArray } } := by
    refine ⟨.ref _, _, I5.laid (t' := s4.toks) (o := .tup xs.reverse) (fun b ob z => Heap.get?_push_of_some _ z) (Nat.le_refl _) ?_, rfl, q _ (I5.hok.fresh (Nat.le_refl _))⟩
    exact ⟨by rw [List.length_reverse]; exact hz, _, r.reverse, ⟨_, Heap.get?_push_size _ rfl, rfl, _, rfl⟩⟩
  unfold getItem
  try with_reducible refine wpAny_holding ?_
  first | refine wpAny_bind (wpAny_pure ?_) | skip
  refine wpAny_bind (wpAny_sequenceKey ht.typeIs (by decide) ?_)
  refine wpAny_bind (wpAny_callSpecial?_slot (name := Str.ofString "__getitem__") ht.typeIs PyProof.Rows.slot_tuple_getitem (wpAny_call_entry PyProof.Rows.slot_tuple_getitem ht.typeIs PyProof.Rows.entry_tuple_getitem ?_ (PyProof.Rows.args_tuple_getitem _ _)))
  show wpAny _ _ (Builtin.Tuple.tupleItemsOf (.ref a) >>= _) _ _ _
  refine wpAny_bind (PyProof.Rows.tupleItemsOf_ ht ?_)
  refine wpAny_bind (wpAny_typeOf typ ?_)
  rw [if_pos (by decide)]
  refine wpAny_bind ?_
  unfold Builtin.Slice.sliceApplied Builtin.Slice.sliceFields
  refine wpAny_bind (wpAny_bind (wpAny_field hos hds (x := vl) rfl (wpAny_bind (wpAny_field hos hds (x := vu) rfl (wpAny_bind (wpAny_field hos hds (x := vs) rfl (wpAny_pure ?_)))))))
  refine wpAny_bind (HT.slicePart_ ps ?_)
  show wpAny _ _ (if ((-1 : Int) == 0) = true then _ else _) _ _ _
  rw [if_neg (by decide)]
  refine wpAny_bind (HT.slicePart_ pl (wpAny_bind (HT.slicePart_ pu (wpAny_bind (wpAny_pure ?_)))))
  show wpAny _ _ (match Builtin.Slice.sliceAdjust none none (-1) (its.toArray.size : Int) with | (lo, hi) => pure (lo, (-1 : Int), Builtin.Slice.slicePlaces lo hi (-1))) _ _ _
  rw [adjustBack]
  show wpAny _ _ (pure (((its.toArray.size : Int) - 1), (-1 : Int), Builtin.Slice.slicePlaces ((its.toArray.size : Int) - 1) (-1) (-1))) _ _ _
  rw [placesBack]
  refine wpAny_pure ?_
  have hno : ¬ ((((its.toArray.size : Int) - 1) == 0 && (-1 : Int) == 1 && its.toArray.size == its.toArray.size) = true) := by
    rw [show ((-1 : Int) == 1) = false from rfl, Bool.and_false, Bool.false_and]
    exact Bool.false_ne_true
  show wpAny _ _ (if (((its.toArray.size : Int) - 1) == 0 && (-1 : Int) == 1 && its.toArray.size == its.toArray.size) = true then _ else _) _ _ _
  rw [if_neg hno, pickBack]
  first
    | exact wpAny_bind (m := Builtin.Tuple.tupleExact _) (wpAny_newObj_type (wpAny_pure ⟨_, rfl, wpAny_pure fin⟩) small)
    | exact wpAny_bind (m := Builtin.Tuple.tupleExact _) (wpAny_newObj_type (wpAny_bind (wpAny_pure (wpAny_pure ⟨_, rfl, wpAny_pure fin⟩))) small)
    | exact wpAny_bind (wpAny_bind (m := Builtin.Tuple.tupleExact _) (wpAny_newObj_type (wpAny_pure (wpAny_pure ⟨_, rfl, wpAny_pure fin⟩)) small))
    | exact wpAny_bind (wpAny_bind (m := Builtin.Tuple.tupleExact _) (wpAny_newObj_type (wpAny_pure ⟨_, rfl, wpAny_pure fin⟩) small))
end SL

namespace SL
open PySem PySem.Spec PyProof.Rows L2
/-! ### the text -/
def topS (i : Nat) : Stmt := PySem.Challenge.pw_samelayout_k03_probes_of_any_value.main.body.getD i (.Pass ⟨0, 0, 0, 0⟩)
abbrev sWithin : Stmt := topS 1
abbrev sOrder : Stmt := topS 3
abbrev sProbes : Stmt := topS 6
abbrev sSized : Stmt := topS 7
abbrev sPot : Stmt := topS 9
abbrev sTake : Stmt := topS 10
abbrev sPick : Stmt := topS 11
abbrev sMixed : Stmt := topS 12
abbrev sLine : Stmt := topS 13
abbrev sProbe : Stmt := topS 14
abbrev sOdd : Stmt := topS 15
abbrev sBent : Stmt := topS 16
abbrev sNumber : Stmt := topS 17
abbrev sIsProbe : Stmt := topS 18
abbrev sDue : Stmt := topS 19
abbrev sAsked : Stmt := topS 20
abbrev sByHand : Stmt := topS 21
abbrev sRight : Stmt := topS 22
abbrev sLaw : Stmt := topS 23
theorem scTake : FnScope ["_law_pot_here", "_law_size", "_law_digit", "_law_prime", "_law_mixed_here"] ["_law_pot_here", "_law_size"] (defScope sTake) := ⟨rfl, rfl, rfl, by decide +kernel, rfl, by decide +kernel, by decide +kernel⟩
theorem scPot : FnScope ["_law_script", "_law_k", "_law_cell", "_law_great"] ["_law_script", "_law_k"] (defScope sPot) := ⟨rfl, rfl, rfl, by decide +kernel, rfl, by decide +kernel, by decide +kernel⟩
theorem scPick : FnScope ["_law_pot_here", "_law_some"] ["_law_pot_here", "_law_some"] (defScope sPick) := ⟨rfl, rfl, rfl, by decide +kernel, rfl, by decide +kernel, by decide +kernel⟩

/-! ### heaps -/
/-- all but p is as it was -/
def Kp (p : Addr) (H H' : Hp) : Prop := ∀ b o, b ≠ p → H b = some o → H' b = some o
theorem Kp.refl (p : Addr) (H : Hp) : Kp p H H := fun _ _ _ h => h
theorem Kp.trans {p : Addr} {H H1 H2 : Hp} (a : Kp p H H1) (b : Kp p H1 H2) : Kp p H H2 := fun c o n h => b c o n (a c o n h)
theorem Kp.same {p : Addr} {H H' : Hp} (s : Same H H') : Kp p H H' := fun b o _ h => s b o h
theorem Kp.upd (p : Addr) (H : Hp) (o : HO) : Kp p H (upd H p o) := fun b u n h => by rw [upd_ne n]; exact h
theorem same_new {H : Hp} {p : Addr} {o : HO} (h : H p = none) : Same H (upd H p o) := fun b u e => by rw [upd_ne (ne_of_none e h)]; exact e
/-- a pot with n takes to come -/
def Pot (H : Hp) (p : Addr) (n : Nat) : Prop := ∃ g m c : Int, H p = some (.lst [.int g, .int m, .int c]) ∧ 0 ≤ g ∧ g < 10 ^ 180 ∧ 0 ≤ m ∧ m < 2 ^ 61 ∧ 0 ≤ c ∧ c + n ≤ 1000000
theorem Pot.less {H : Hp} {p : Addr} {n m : Nat} (h : Pot H p n) (l : m ≤ n) : Pot H p m := by
  obtain ⟨g, a, c, h1, h2, h3, h4, h5, h6, h7⟩ := h
  exact ⟨g, a, c, h1, h2, h3, h4, h5, h6, by omega⟩
theorem Pot.same {H H' : Hp} {p : Addr} {n : Nat} (h : Pot H p n) (s : Same H H') : Pot H' p n := by
  obtain ⟨g, a, c, h1, h2⟩ := h
  exact ⟨g, a, c, s _ _ h1, h2⟩
theorem Pot.lst {H : Hp} {p : Addr} {n : Nat} (h : Pot H p n) : ∃ xs, H p = some (.lst xs) := by
  obtain ⟨g, a, c, h1, h2⟩ := h
  exact ⟨_, h1⟩
section
variable {P : Program} {w : World} {K : PySem.W.Frag} {mg : Str → Option Value} {base : Heap}
/-! ### take -/
def spTake : Sp := fun vs H Q _ => ∃ (p : Addr) (z : Int) (n : Nat), vs = [.ref p, .int z] ∧ Pot H p (n + 1) ∧ 0 < z ∧ z ≤ 1000 ∧
  ∀ H' r, Kp p H H' → Pot H' p n → 0 ≤ r → r < z → Q (.int r) H'
theorem ok_take {f : Addr} {fd : FuncData} {k : Nat} (F : Fun K "_law_take" "_law_take" sTake f fd) : FnOk P w K mg base CX0 (k + 1) f fd ["_law_pot_here", "_law_size"] spTake := by
  refine F.ok scTake (fun vs H Q E h => ?_) (fun cdv A outer s H vs Q E hr h => ?_)
  · obtain ⟨p, z, n, rfl, _⟩ := h
    rfl
  · obtain ⟨p, z, n, rfl, hp, z0, z1, q⟩ := h
    obtain ⟨g, m, c, h1, g0, g1, m0, m1, c0, c1⟩ := hp
    refine ⟨_, pss_cons (ps_if (pt_cmpR op_gt (pe_ix ix_list (pv 0) pe_int (fun _ _ => rfl)) pe_int (nomark _))
        (pss_cons (ps_set (i := 2) scTake.nd rfl (.inl rfl) (pe_op op_mod (pe_ix ix_list (pv 0) pe_int (fun _ _ => rfl)) (pv 1)))
          (pss_cons (ps_asg (pe_op op_fdiv (pe_ix ix_list (pv 0) pe_int (fun _ _ => rfl)) (pv 1)) (pg_sub (pv 0) pe_int set_list))
            (pss_one (ps_ret (pv 2))))) pss_nil)
      (pss_cons (ps_asg (pe_op op_add (pe_ix ix_list (pv 0) pe_int (fun _ _ => rfl)) pe_int) (pg_sub (pv 0) pe_int set_list))
      (pss_cons (ps_set (i := 3) scTake.nd rfl (.inl rfl) (pe_ix ix_list (pe_lst (pa_cons pe_int (pa_cons pe_int (pa_cons pe_int (pa_cons pe_int (pa_cons pe_int pa_nil))))))
          (pe_op op_mod (pe_ix ix_list (pv 0) pe_int (fun _ _ => rfl)) pe_int) (fun _ _ => rfl)))
      (pss_cons (ps_set (i := 4) scTake.nd rfl (.inl rfl) (pe_op op_mod (pe_op op_pow (pe_op op_add (pe_op op_add (pe_ix ix_list (pv 0) pe_int (fun _ _ => rfl))
            (pe_op op_mul (pe_op op_mul pe_int (pe_ix ix_list (pv 0) pe_int (fun _ _ => rfl))) (pe_ix ix_list (pv 0) pe_int (fun _ _ => rfl)))) pe_int) pe_int) (pv 3)))
      (pss_one (ps_ret (pe_op op_mod (pe_op op_fdiv (pe_op op_mod (pe_op op_mul (pv 4) (pe_op op_add (pe_op op_mod (pv 4) pe_int)
            (pe_op op_mul pe_int (pe_ix ix_list (pv 0) pe_int (fun _ _ => rfl))))) pe_int) pe_int) (pv 1))))))), ?_⟩
    have hL : SqL K H p [.int g, .int m, .int c] := SqL.of h1
    refine ⟨.ref p, rfl, p, _, 0, .int g, rfl, rfl, hL, atI_nat (j := 0) rfl, _, _, rfl, rfl, _, rfl, ite2 (fun e => ?_) (fun e => ?_)⟩
    · refine ⟨.ref p, rfl, p, _, 0, .int g, rfl, rfl, hL, atI_nat (j := 0) rfl, .int z, rfl, g, z, rfl, rfl, z0, ?_⟩
      refine ⟨.ref p, rfl, p, _, 0, .int g, rfl, rfl, hL, atI_nat (j := 0) rfl, .int z, rfl, g, z, rfl, rfl, ⟨z0, by omega⟩, ?_⟩
      refine ⟨.ref p, rfl, p, _, 0, 0, rfl, rfl, h1, rfl, ?_⟩
      refine ⟨.int (g % z), rfl, ?_⟩
      refine q _ _ (Kp.upd p H _) ⟨g / z, m, c, upd_same, Int.ediv_nonneg g0 (by omega), ?_, m0, m1, c0, by omega⟩ (Int.emod_nonneg _ (by omega)) (Int.emod_lt_of_pos _ z0)
      exact Int.lt_of_le_of_lt (Int.ediv_le_self z g0) g1
    · -- pot[2] = pot[2] + 1
      refine ⟨.ref p, rfl, p, _, 2, .int c, rfl, rfl, hL, atI_nat (j := 2) rfl, c, 1, rfl, rfl, ?_⟩
      refine ⟨.ref p, rfl, p, _, 2, 2, rfl, rfl, h1, rfl, ?_⟩
      have h2 : upd H p (.lst ([V.int g, .int m, .int c].set 2 (.int (c + 1)))) p = some (.lst [.int g, .int m, .int (c + 1)]) := upd_same
      -- the prime
      refine ⟨Nat.le_of_lt (small1000 (by decide)), fun l hl => ?_⟩
      have ne : p ≠ l := fun e => by
        rw [← e, h2] at hl
        cases hl
      have h3 : upd (upd H p (.lst ([V.int g, .int m, .int c].set 2 (.int (c + 1))))) l (.lst [.int 2147483647, .int 2147483629, .int 2147483587, .int 2147483579, .int 2147483563]) p = some (.lst [.int g, .int m, .int (c + 1)]) := by
        rw [upd_ne ne]
        exact h2
      have hM : SqL K (upd (upd H p (.lst ([V.int g, .int m, .int c].set 2 (.int (c + 1))))) l (.lst [.int 2147483647, .int 2147483629, .int 2147483587, .int 2147483579, .int 2147483563])) p [.int g, .int m, .int (c + 1)] := SqL.of h3
      have hP : SqL K (upd (upd H p (.lst ([V.int g, .int m, .int c].set 2 (.int (c + 1))))) l (.lst [.int 2147483647, .int 2147483629, .int 2147483587, .int 2147483579, .int 2147483563])) l [.int 2147483647, .int 2147483629, .int 2147483587, .int 2147483579, .int 2147483563] := SqL.of upd_same
      have kp : Kp p H (upd (upd H p (.lst ([V.int g, .int m, .int c].set 2 (.int (c + 1))))) l (.lst [.int 2147483647, .int 2147483629, .int 2147483587, .int 2147483579, .int 2147483563])) := (Kp.upd p H _).trans (Kp.same (same_new hl))
      generalize upd (upd H p (.lst ([V.int g, .int m, .int c].set 2 (.int (c + 1))))) l (.lst [.int 2147483647, .int 2147483629, .int 2147483587, .int 2147483579, .int 2147483563]) = H2 at h3 hM hP kp ⊢
      have r0 : 0 ≤ (c + 1) % 5 := Int.emod_nonneg _ (by decide)
      have r1 : (c + 1) % 5 < 5 := Int.emod_lt_of_pos _ (by decide)
      obtain ⟨pr, hpr, p0, p1⟩ : ∃ pr : Int, atI [V.int 2147483647, .int 2147483629, .int 2147483587, .int 2147483579, .int 2147483563] ((c + 1) % 5) = some (.int pr) ∧ 0 < pr ∧ pr ≤ 2147483647 := by
        have cs : (c + 1) % 5 = 0 ∨ (c + 1) % 5 = 1 ∨ (c + 1) % 5 = 2 ∨ (c + 1) % 5 = 3 ∨ (c + 1) % 5 = 4 := by omega
        rcases cs with e | e | e | e | e <;> rw [e]
        · exact ⟨2147483647, atI_nat (j := 0) rfl, by decide, by decide⟩
        · exact ⟨2147483629, atI_nat (j := 1) rfl, by decide, by decide⟩
        · exact ⟨2147483587, atI_nat (j := 2) rfl, by decide, by decide⟩
        · exact ⟨2147483579, atI_nat (j := 3) rfl, by decide, by decide⟩
        · exact ⟨2147483563, atI_nat (j := 4) rfl, by decide, by decide⟩
      refine ⟨.ref p, rfl, p, _, 2, .int (c + 1), rfl, rfl, hM, atI_nat (j := 2) rfl, c + 1, 5, rfl, rfl, (show (0 : Int) < 5 by decide), ?_⟩
      refine ⟨l, _, _, .int pr, rfl, rfl, hP, hpr, ?_⟩
      -- mixed
      have b1 : 40009 * (c + 1) ≤ 40009 * 1000000 := by omega
      have b2 : 0 ≤ 40009 * (c + 1) := by omega
      have b3 : 0 ≤ 40009 * (c + 1) * (c + 1) := Int.mul_nonneg b2 (by omega)
      have b4 : 40009 * (c + 1) * (c + 1) ≤ (40009 * 1000000) * 1000000 := Int.mul_le_mul b1 (by omega) (by omega) (by decide)
      refine ⟨.ref p, rfl, p, _, 1, .int m, rfl, rfl, hM, atI_nat (j := 1) rfl, .ref p, rfl, p, _, 2, .int (c + 1), rfl, rfl, hM, atI_nat (j := 2) rfl, 40009, c + 1, rfl, rfl, .inl ⟨by decide, by decide⟩,
        .ref p, rfl, p, _, 2, .int (c + 1), rfl, rfl, hM, atI_nat (j := 2) rfl, _, c + 1, rfl, rfl, .inl ⟨by omega, by omega⟩, m, _, rfl, rfl, _, 31, rfl, rfl, _, 3, rfl, rfl, ⟨by decide, by decide, by omega⟩, .int pr, rfl, _, pr, rfl, rfl, p0, ?_⟩
      generalize (m + 40009 * (c + 1) * (c + 1) + 31) ^ (3 : Int).toNat = y
      have y0 : 0 ≤ y % pr := Int.emod_nonneg _ (by omega)
      have y1 : y % pr < pr := Int.emod_lt_of_pos _ p0
      have v0 : 0 ≤ y % pr % 10009 := Int.emod_nonneg _ (by decide)
      have v1 : y % pr % 10009 < 10009 := Int.emod_lt_of_pos _ (by decide)
      refine ⟨.int (y % pr), rfl, .int (y % pr), rfl, y % pr, 10009, rfl, rfl, (show (0 : Int) < 10009 by decide), .ref p, rfl, p, _, 2, .int (c + 1), rfl, rfl, hM, atI_nat (j := 2) rfl, 89, c + 1, rfl, rfl, .inl ⟨by decide, by decide⟩,
        _, _, rfl, rfl, y % pr, _, rfl, rfl, .inl ⟨by omega, by omega⟩, _, 2305843009213693907, rfl, rfl, (show (0 : Int) < 2305843009213693907 by decide), _, 89, rfl, rfl, ⟨by decide, by decide⟩, .int z, rfl, _, z, rfl, rfl, z0, ?_⟩
      exact q _ _ kp ⟨g, m, c + 1, h3, g0, g1, m0, m1, by omega, by omega⟩ (Int.emod_nonneg _ (by omega)) (Int.emod_lt_of_pos _ z0)
/-! ### pot -/
def spPot (K : PySem.W.Frag) : Sp := fun vs H Q _ => ∃ (a : Addr) (ns : List Int) (k : Nat), vs = [.ref a, .int k] ∧ SqL K H a (ns.map V.int) ∧ k ≤ 3 ∧
  ∀ H' p, Same H H' → H p = none → Pot H' p 1000000 → Q (.ref p) H'
theorem ok_pot {f : Addr} {fd : FuncData} {k : Nat} (F : Fun K "_law_pot" "_law_pot" sPot f fd) (ml : mg "len" = none) (ma : mg "abs" = none) :
    FnOk P w K mg base CX0 (k + 1) f fd ["_law_script", "_law_k"] (spPot K) := by
  refine F.ok scPot (fun vs H Q E h => ?_) (fun cdv A outer s H vs Q E hr h => ?_)
  · obtain ⟨a, ns, k, rfl, _⟩ := h
    rfl
  · obtain ⟨a, ns, k, rfl, hS, k3, q⟩ := h
    refine ⟨_, pss_cons (ps_set (i := 2) scPot.nd rfl (.inl rfl) (pe_ifExp (pt_cmpR op_lt (pv 1) (pe_callB call_len_seq (by rfl) ml PySem.boot_len (pa_cons (pv 0) pa_nil)) (nomark _))
          (pe_ix ix_list (pv 0) (pv 1) (fun _ _ => rfl)) (pe_op op_add (pe_op op_mul pe_int (pv 1)) pe_int)))
      (pss_cons (ps_set (i := 3) scPot.nd rfl (.inl rfl) (pe_ifExp (pt_cmpR op_ge (pe_callB call_abs (by rfl) ma (by decide +kernel) (pa_cons (pv 2) pa_nil)) (pe_op op_pow pe_int pe_int) (nomark _))
          (pe_op op_mod (pe_callB call_abs (by rfl) ma (by decide +kernel) (pa_cons (pv 2) pa_nil)) (pe_op op_powB (pe_op op_pow pe_int pe_int) pe_int)) pe_int))
      (pss_one (ps_ret (pe_lst (pa_cons (pv 3) (pa_cons (pe_op op_mod (pe_op op_add (pe_op op_add (pe_op op_mul (pe_op op_mod (pv 2) pe_int) pe_int)
          (pe_op op_mul (pe_op op_mul pe_int (pv 1)) (pv 1))) pe_int) pe_int) (pa_cons pe_int pa_nil))))))), ?_⟩
    have e60 : (10 : Int) ^ (60 : Int).toNat = 1000000000000000000000000000000000000000000000000000000000000 := by decide +kernel
    have e180 : ((10 : Int) ^ (60 : Int).toNat) ^ (3 : Int).toNat = 10 ^ 180 := by decide +kernel
    refine ⟨.int k, rfl, .ref a, rfl, a, _, rfl, .inl hS, _, _, rfl, rfl, _, rfl, ite2 (fun e => ?_) (fun e => ?_)⟩
    · have lt : k < ns.length := by
        have z := of_decide_eq_true e
        rw [List.length_map] at z
        omega
      refine ⟨.ref a, rfl, .int k, rfl, a, _, k, .int ns[k], rfl, rfl, hS, atI_nat (by rw [List.getElem?_map, List.getElem?_eq_getElem lt]; rfl), ?_⟩
      refine ⟨.int ns[k], rfl, ns[k], rfl, 10, 18, rfl, rfl, ⟨by decide, by decide, by decide⟩, _, _, rfl, rfl, _, rfl, ite2 (fun e => ?_) (fun e => ?_)⟩
      · refine ⟨.int ns[k], rfl, ns[k], rfl, 10, 60, rfl, rfl, ⟨by decide, by decide, by decide⟩, _, 3, rfl, rfl, ⟨by decide, by rw [e60]; decide +kernel⟩, _, _, rfl, rfl, by rw [e180]; exact (by decide +kernel : (0 : Int) < 10 ^ 180), ?_⟩
        rw [e180]
        have gr0 : 0 ≤ (if ns[k] < 0 then -ns[k] else ns[k]) % 10 ^ 180 := Int.emod_nonneg _ (by decide +kernel)
        have gr1 : (if ns[k] < 0 then -ns[k] else ns[k]) % 10 ^ 180 < 10 ^ 180 := Int.emod_lt_of_pos _ (by decide +kernel)
        have g9 : 0 ≤ ns[k] % 2305843009213693951 := Int.emod_nonneg _ (by decide)
        have g8 : ns[k] % 2305843009213693951 < 2305843009213693951 := Int.emod_lt_of_pos _ (by decide)
        refine ⟨_, rfl, .int ns[k], rfl, ns[k], 2305843009213693951, rfl, rfl, (show (0 : Int) < 2305843009213693951 by decide), _, 69621, rfl, rfl, .inl ⟨by omega, by omega⟩, .int k, rfl, 104729, k, rfl, rfl, .inl ⟨by decide, by decide⟩,
          .int k, rfl, _, k, rfl, rfl, .inl ⟨by omega, by omega⟩, _, _, rfl, rfl, _, 71, rfl, rfl, _, 2305843009213693921, rfl, rfl, (show (0 : Int) < 2305843009213693921 by decide), Nat.le_of_lt (small1000 (by show 3 ≤ 1000; decide)), fun p hp => ?_⟩
        exact q _ _ (same_new hp) hp ⟨_, (ns[k] % 2305843009213693951 * 69621 + 104729 * k * k + 71) % 2305843009213693921, 0, upd_same, gr0, gr1, Int.emod_nonneg _ (by decide), Int.lt_trans (Int.emod_lt_of_pos _ (by decide)) (by decide), by decide, by decide⟩
      · have gr0 : (0 : Int) ≤ 0 := by decide
        have gr1 : (0 : Int) < 10 ^ 180 := by decide +kernel
        have g9 : 0 ≤ ns[k] % 2305843009213693951 := Int.emod_nonneg _ (by decide)
        have g8 : ns[k] % 2305843009213693951 < 2305843009213693951 := Int.emod_lt_of_pos _ (by decide)
        refine ⟨_, rfl, .int ns[k], rfl, ns[k], 2305843009213693951, rfl, rfl, (show (0 : Int) < 2305843009213693951 by decide), _, 69621, rfl, rfl, .inl ⟨by omega, by omega⟩, .int k, rfl, 104729, k, rfl, rfl, .inl ⟨by decide, by decide⟩,
          .int k, rfl, _, k, rfl, rfl, .inl ⟨by omega, by omega⟩, _, _, rfl, rfl, _, 71, rfl, rfl, _, 2305843009213693921, rfl, rfl, (show (0 : Int) < 2305843009213693921 by decide), Nat.le_of_lt (small1000 (by show 3 ≤ 1000; decide)), fun p hp => ?_⟩
        exact q _ _ (same_new hp) hp ⟨_, (ns[k] % 2305843009213693951 * 69621 + 104729 * k * k + 71) % 2305843009213693921, 0, upd_same, gr0, gr1, Int.emod_nonneg _ (by decide), Int.lt_trans (Int.emod_lt_of_pos _ (by decide)) (by decide), by decide, by decide⟩
    · refine ⟨.int k, rfl, 17, k, rfl, rfl, .inl ⟨by decide, by decide⟩, _, 3, rfl, rfl, ?_⟩
      refine ⟨.int (17 * (k : Int) + 3), rfl, (17 * (k : Int) + 3), rfl, 10, 18, rfl, rfl, ⟨by decide, by decide, by decide⟩, _, _, rfl, rfl, _, rfl, ite2 (fun e => ?_) (fun e => ?_)⟩
      · refine ⟨.int (17 * (k : Int) + 3), rfl, (17 * (k : Int) + 3), rfl, 10, 60, rfl, rfl, ⟨by decide, by decide, by decide⟩, _, 3, rfl, rfl, ⟨by decide, by rw [e60]; decide +kernel⟩, _, _, rfl, rfl, by rw [e180]; exact (by decide +kernel : (0 : Int) < 10 ^ 180), ?_⟩
        rw [e180]
        have gr0 : 0 ≤ (if (17 * (k : Int) + 3) < 0 then -(17 * (k : Int) + 3) else (17 * (k : Int) + 3)) % 10 ^ 180 := Int.emod_nonneg _ (by decide +kernel)
        have gr1 : (if (17 * (k : Int) + 3) < 0 then -(17 * (k : Int) + 3) else (17 * (k : Int) + 3)) % 10 ^ 180 < 10 ^ 180 := Int.emod_lt_of_pos _ (by decide +kernel)
        have g9 : 0 ≤ (17 * (k : Int) + 3) % 2305843009213693951 := Int.emod_nonneg _ (by decide)
        have g8 : (17 * (k : Int) + 3) % 2305843009213693951 < 2305843009213693951 := Int.emod_lt_of_pos _ (by decide)
        refine ⟨_, rfl, .int (17 * (k : Int) + 3), rfl, (17 * (k : Int) + 3), 2305843009213693951, rfl, rfl, (show (0 : Int) < 2305843009213693951 by decide), _, 69621, rfl, rfl, .inl ⟨by omega, by omega⟩, .int k, rfl, 104729, k, rfl, rfl, .inl ⟨by decide, by decide⟩,
          .int k, rfl, _, k, rfl, rfl, .inl ⟨by omega, by omega⟩, _, _, rfl, rfl, _, 71, rfl, rfl, _, 2305843009213693921, rfl, rfl, (show (0 : Int) < 2305843009213693921 by decide), Nat.le_of_lt (small1000 (by show 3 ≤ 1000; decide)), fun p hp => ?_⟩
        exact q _ _ (same_new hp) hp ⟨_, ((17 * (k : Int) + 3) % 2305843009213693951 * 69621 + 104729 * k * k + 71) % 2305843009213693921, 0, upd_same, gr0, gr1, Int.emod_nonneg _ (by decide), Int.lt_trans (Int.emod_lt_of_pos _ (by decide)) (by decide), by decide, by decide⟩
      · have gr0 : (0 : Int) ≤ 0 := by decide
        have gr1 : (0 : Int) < 10 ^ 180 := by decide +kernel
        have g9 : 0 ≤ (17 * (k : Int) + 3) % 2305843009213693951 := Int.emod_nonneg _ (by decide)
        have g8 : (17 * (k : Int) + 3) % 2305843009213693951 < 2305843009213693951 := Int.emod_lt_of_pos _ (by decide)
        refine ⟨_, rfl, .int (17 * (k : Int) + 3), rfl, (17 * (k : Int) + 3), 2305843009213693951, rfl, rfl, (show (0 : Int) < 2305843009213693951 by decide), _, 69621, rfl, rfl, .inl ⟨by omega, by omega⟩, .int k, rfl, 104729, k, rfl, rfl, .inl ⟨by decide, by decide⟩,
          .int k, rfl, _, k, rfl, rfl, .inl ⟨by omega, by omega⟩, _, _, rfl, rfl, _, 71, rfl, rfl, _, 2305843009213693921, rfl, rfl, (show (0 : Int) < 2305843009213693921 by decide), Nat.le_of_lt (small1000 (by show 3 ≤ 1000; decide)), fun p hp => ?_⟩
        exact q _ _ (same_new hp) hp ⟨_, ((17 * (k : Int) + 3) % 2305843009213693951 * 69621 + 104729 * k * k + 71) % 2305843009213693921, 0, upd_same, gr0, gr1, Int.emod_nonneg _ (by decide), Int.lt_trans (Int.emod_lt_of_pos _ (by decide)) (by decide), by decide, by decide⟩
end
end SL

namespace SL
open PySem
/-! ### lists -/
theorem perm_of_sub {α : Type} [DecidableEq α] : ∀ (l r : List α), l.Nodup → (∀ x ∈ l, x ∈ r) → r.length ≤ l.length → l.Perm r
  | [], r, _, _, h => by
    have e : r = [] := List.eq_nil_of_length_eq_zero (Nat.le_zero.mp h)
    rw [e]
  | a :: l, r, nd, sub, h => by
    have ha : a ∈ r := sub a List.mem_cons_self
    have p := List.perm_cons_erase ha
    have len : (r.erase a).length = r.length - 1 := List.length_erase_of_mem ha
    rw [List.nodup_cons] at nd
    have ih := perm_of_sub l (r.erase a) nd.2 (fun x hx => (List.mem_erase_of_ne (fun (e : x = a) => nd.1 (by rw [← e]; exact hx))).mpr (sub x (List.mem_cons_of_mem _ hx))) (by
      rw [len]
      rw [List.length_cons] at h
      omega)
    exact (ih.cons a).trans p.symm
theorem len_of_sub {α : Type} [DecidableEq α] : ∀ (l r : List α), l.Nodup → (∀ x ∈ l, x ∈ r) → l.length ≤ r.length
  | [], r, _, _ => Nat.zero_le _
  | a :: l, r, nd, sub => by
    have ha : a ∈ r := sub a List.mem_cons_self
    have len : (r.erase a).length = r.length - 1 := List.length_erase_of_mem ha
    rw [List.nodup_cons] at nd
    have ih := len_of_sub l (r.erase a) nd.2 (fun x hx => (List.mem_erase_of_ne (fun (e : x = a) => nd.1 (by rw [← e]; exact hx))).mpr (sub x (List.mem_cons_of_mem _ hx)))
    have pos : 0 < r.length := List.length_pos_of_mem ha
    rw [List.length_cons]
    omega
/-- the slots -/
def R (n : Nat) : List Int := (List.range n).map fun (i : Nat) => (i : Int)
theorem R_len (n : Nat) : (R n).length = n := by simp [R]
theorem R_mem {n : Nat} {x : Int} : x ∈ R n ↔ 0 ≤ x ∧ x < n := by
  unfold R
  rw [List.mem_map]
  constructor
  · rintro ⟨i, hi, rfl⟩
    have := List.mem_range.mp hi
    omega
  · rintro ⟨h0, h1⟩
    exact ⟨x.toNat, List.mem_range.mpr (by omega), by omega⟩
theorem R_nodup (n : Nat) : (R n).Nodup := by
  unfold R
  rw [List.nodup_iff_pairwise_ne, List.pairwise_map]
  exact (List.nodup_range (n := n)).imp (fun h e => h (by omega))
theorem R_rising (n : Nat) : (R n).Pairwise (· ≤ ·) := by
  unfold R
  rw [List.pairwise_map]
  exact (List.pairwise_lt_range (n := n)).imp (fun h => by omega)
/-- by the set: as many as there are, and no more of them -/
theorem probe_by_set {n : Nat} {ns ks : List Int} (nd : ks.Nodup) (mem : ∀ k, k ∈ ks ↔ k ∈ ns) (inR : ∀ x ∈ ns, x ∈ R n) : (ns.length = n ∧ ks.length = n) ↔ ns.Perm (R n) := by
  constructor
  · rintro ⟨h1, h2⟩
    have p : ks.Perm (R n) := perm_of_sub ks (R n) nd (fun x hx => inR x ((mem x).mp hx)) (by rw [R_len]; omega)
    refine (perm_of_sub (R n) ns (R_nodup n) (fun x hx => (mem x).mp (p.mem_iff.mpr hx)) (by rw [R_len]; omega)).symm
  · intro p
    have h1 : ns.length = n := by rw [p.length_eq, R_len]
    refine ⟨h1, ?_⟩
    have a := len_of_sub ks (R n) nd fun x hx => inR x ((mem x).mp hx)
    have b := len_of_sub (R n) ks (R_nodup n) fun x hx => (mem x).mpr (p.mem_iff.mpr hx)
    rw [R_len] at a b
    omega
/-- by sorting -/
theorem sorted_one {a b : List Int} (p : a.Perm b) (ha : a.Pairwise (· ≤ ·)) (hb : b.Pairwise (· ≤ ·)) : a = b :=
  p.eq_of_pairwise (fun x y _ _ h1 h2 => Int.le_antisymm h1 h2) ha hb
theorem probe_by_sort {n : Nat} {ns out : List Int} (p : out.Perm ns) (r : out.Pairwise (· ≤ ·)) : out = R n ↔ ns.Perm (R n) := by
  constructor
  · intro e
    rw [← e]
    exact p.symm
  · intro q
    exact sorted_one (p.trans q) r (R_rising n)
/-- in a row, round -/
def lineL (n : Nat) (b : Int) : List Int := (List.range n).map fun (i : Nat) => (b + i) % n
theorem line_perm {n : Nat} {b : Int} (hn : 0 < n) : (lineL n b).Perm (R n) := by
  refine perm_of_sub _ _ ?_ (fun x hx => ?_) (by rw [R_len]; simp [lineL])
  · unfold lineL
    rw [List.nodup_iff_pairwise_ne, List.pairwise_map]
    refine (List.pairwise_lt_range (n := n)).imp_of_mem (fun {i j} hi hj h e => ?_)
    have hi := List.mem_range.mp hi
    have hj := List.mem_range.mp hj
    have z : ((b + j) - (b + i)) % (n : Int) = 0 := by rw [Int.sub_emod, ← e, Int.sub_self, Int.zero_emod]
    have d := Int.emod_emod_of_dvd
    have dv : (n : Int) ∣ ((b + j) - (b + i)) := Int.dvd_of_emod_eq_zero z
    have l := Int.le_of_dvd (by omega) dv
    omega
  · unfold lineL at hx
    rw [List.mem_map] at hx
    obtain ⟨i, _, rfl⟩ := hx
    exact R_mem.mpr ⟨Int.emod_nonneg _ (by omega), Int.emod_lt_of_pos _ (by omega)⟩
end SL

namespace SL
open PySem PySem.Spec PyProof.Rows L2
theorem scMixed : FnScope ["_law_pot_here", "_law_some", "_law_left", "_law_found"] ["_law_pot_here", "_law_some"] (defScope sMixed) := ⟨rfl, rfl, rfl, by decide +kernel, rfl, by decide +kernel, by decide +kernel⟩
theorem scLine : FnScope ["_law_size", "_law_begin", "_law_at"] ["_law_size", "_law_begin"] (defScope sLine) := ⟨rfl, rfl, rfl, by decide +kernel, rfl, by decide +kernel, by decide +kernel⟩
theorem scProbe : FnScope ["_law_pot_here", "_law_size"] ["_law_pot_here", "_law_size"] (defScope sProbe) := ⟨rfl, rfl, rfl, by decide +kernel, rfl, by decide +kernel, by decide +kernel⟩
section
variable {P : Program} {w : World} {K : PySem.W.Frag} {mg : Str → Option Value} {base : Heap}
/-! ### pick -/
def spPick : Sp := fun vs H Q _ => ∃ (p l : Addr) (xs : List V) (n : Nat), vs = [.ref p, .ref l] ∧ Pot H p (n + 1) ∧ H l = some (.lst xs) ∧ l ≠ p ∧ 0 < xs.length ∧ xs.length ≤ 1000 ∧
  ∀ H' (i : Nat) x, Kp p H H' → Pot H' p n → xs[i]? = some x → Q x H'
theorem ok_pick {f fT : Addr} {fd fdT : FuncData} {k : Nat} (F : Fun K "_law_pick" "_law_pick" sPick f fd) (FT : Fun K "_law_take" "_law_take" sTake fT fdT) (bT : Binds K fdT ["_law_pot_here", "_law_size"] []) (gT : mg "_law_take" = some (.ref fT))
    (ml : mg "len" = none) : FnOk P w K mg base CX0 (k + 2) f fd ["_law_pot_here", "_law_some"] spPick := by
  have GT : FnOk P w K mg base CX0 (k + 1) fT fdT ["_law_pot_here", "_law_size"] spTake := ok_take FT
  refine F.ok scPick (fun vs H Q E h => ?_) (fun cdv A outer s H vs Q E hr h => ?_)
  · obtain ⟨p, l, xs, n, rfl, _⟩ := h
    rfl
  · obtain ⟨p, l, xs, n, rfl, hp, hl, ne, x0, x1, q⟩ := h
    refine ⟨_, pss_one (ps_ret (pe_ix ix_list (pv 1) (pe_call GT hr (by rfl) gT FT.kp bT .nil pass0 (pa_cons (pv 0) (pa_cons (pe_callB call_len_seq (by rfl) ml PySem.boot_len (pa_cons (pv 1) pa_nil)) pa_nil))) (fun _ _ => rfl))), ?_⟩
    refine ⟨.ref l, rfl, .ref p, rfl, .ref l, rfl, l, xs, rfl, .inl (SqL.of hl), p, _, n, rfl, hp, by omega, by omega, fun H' r kp hp' r0 r1 => ?_⟩
    have hi : r.toNat < xs.length := by omega
    refine ⟨l, xs, r, xs[r.toNat], rfl, rfl, SqL.of (kp _ _ ne hl), at_of (j := r.toNat) (by omega) (List.getElem?_eq_getElem hi), ?_⟩
    exact q H' r.toNat _ kp hp' (List.getElem?_eq_getElem hi)
/-! ### mixed -/
def spMixed : Sp := fun vs H Q _ => ∃ (p l : Addr) (ns : List Int) (n : Nat), vs = [.ref p, .ref l] ∧ Pot H p (n + ns.length) ∧ H l = some (.lst (ns.map V.int)) ∧ ns.length ≤ 100 ∧
  ∀ (H' : Hp) (t : Addr) (out : List Int), Kp p H H' → Pot H' p n → H t = none → H' t = some (.lst (out.map V.int)) → out.Perm ns → Q (.ref t) H'
def lenAt (H : Hp) : Option (Option V) → Nat
  | some (some (.ref a)) => match H a with
    | some (.lst xs) => xs.length
    | _ => 0
  | _ => 0
theorem lenAt_of {H : Hp} {a : Addr} {xs : List V} (h : H a = some (.lst xs)) : lenAt H (some (some (.ref a))) = xs.length := by
  show (match H a with
    | some (.lst xs) => xs.length
    | _ => 0) = xs.length
  rw [h]
theorem take_out : ∀ (l : List Int) (i : Nat) (h : i < l.length), (l[i] :: l.eraseIdx i).Perm l
  | [], i, h => by simp at h
  | a :: l, 0, h => List.Perm.refl _
  | a :: l, i + 1, h => by
    have h' : i < l.length := by simpa using h
    have ih := take_out l i h'
    show (l[i] :: a :: l.eraseIdx i).Perm (a :: l)
    exact (List.Perm.swap a _ _).trans (ih.cons a)
theorem shaped_ints (ns : List Int) : SeqAt.shaped (.list (ns.map PyData.int)) = true := by
  have lay : PyData.canLayAll0 (ns.map PyData.int) = true := by
    induction ns with
    | nil => simp [PyData.canLayAll0]
    | cons a r ih => simp [PyData.canLayAll0, PyData.canLay0, ih]
  have dep : PyData.depthAll (ns.map PyData.int) ≤ 1 := by
    induction ns with
    | nil => simp [PyData.depthAll]
    | cons a r ih =>
      have ih' := ih (by
        simp only [List.map_cons, PyData.canLayAll0, Bool.and_eq_true] at lay
        exact lay.2)
      simp only [List.map_cons, PyData.depthAll, PyData.depth]
      omega
  show ((PyData.list (ns.map PyData.int)).canLay0 && decide ((PyData.list (ns.map PyData.int)).depth ≤ 64)) = true
  rw [Bool.and_eq_true]
  refine ⟨by simp only [PyData.canLay0]; exact lay, decide_eq_true ?_⟩
  simp only [PyData.depth]
  omega
theorem dp_ints (K : PySem.W.Frag) (H : Hp) : ∀ ns : List Int, DpAll K H (ns.map V.int) (ns.map PyData.int)
  | [] => .nil
  | n :: ns => .cons (.int n) (dp_ints K H ns)
theorem ok_mixed {f fT : Addr} {fd fdT : FuncData} {k : Nat} (F : Fun K "_law_mixed" "_law_mixed" sMixed f fd) (FT : Fun K "_law_take" "_law_take" sTake fT fdT) (bT : Binds K fdT ["_law_pot_here", "_law_size"] []) (gT : mg "_law_take" = some (.ref fT))
    (ml : mg "len" = none) (mli : mg "list" = none) : FnOk P w K mg base CX0 (k + 2) f fd ["_law_pot_here", "_law_some"] spMixed := by
  have GT : FnOk P w K mg base CX0 (k + 1) fT fdT ["_law_pot_here", "_law_size"] spTake := ok_take FT
  refine F.ok scMixed (fun vs H Q E h => ?_) (fun cdv A outer s H vs Q E hr h => ?_)
  · obtain ⟨p, l, ns, n, rfl, _⟩ := h
    rfl
  · obtain ⟨p, l, ns, n, rfl, hp, hl, few, q⟩ := h
    refine ⟨_, pss_cons (ps_par (i := 2) (j := 3) (by rfl) scMixed.nd rfl rfl (by decide) rfl rfl (pa_cons (pe_callTy call_list_of (by rfl) mli (by decide +kernel) (pa_cons (pv 1) pa_nil)) (pa_cons (pe_lst pa_nil) pa_nil)) (by rfl))
      (pss_cons (ps_while PassesOwn.never (pt_cmpR (op_neD hr.units) (pv 2) (pe_lst pa_nil) (nomark _))
        (pss_one (ps_expr (pe_bm PySem.F.plainAttrs_list PySem.F.slot_list_append PySem.F.type_list_append mt_append (pv 3)
          (pa_cons (pe_bm PySem.F.plainAttrs_list PySem.F.slot_list_pop PySem.F.type_list_pop mt_popAt (pv 2)
            (pa_cons (pe_call GT hr (by rfl) gT FT.kp bT .nil pass0 (pa_cons (pv 0) (pa_cons (pe_callB call_len_seq (by rfl) ml PySem.boot_len (pa_cons (pv 2) pa_nil)) pa_nil))) pa_nil)) pa_nil)))))
      (pss_one (ps_ret (pv 3)))), ?_⟩
    refine ⟨.ref l, rfl, l, _, rfl, .inl (SqL.of hl), fun a na => ?_⟩
    refine ⟨Nat.zero_le _, fun b nb => ?_⟩
    refine ⟨_, _, rfl, ?_⟩
    have nba : a ≠ b := fun e => by
      rw [← e, upd_same] at nb
      cases nb
    have kb : H b = none := (same_new na).free nb
    refine while_by (fun σ G => ∃ left found : List Int, σ = [some (.ref p), some (.ref l), some (.ref a), some (.ref b)] ∧ G a = some (.lst (left.map V.int)) ∧ G b = some (.lst (found.map V.int)) ∧
        (found ++ left).Perm ns ∧ Pot G p (n + left.length) ∧ Kp p H G) (fun σ G => lenAt G σ[2]?) ?_ (fun σ G inv => ?_) (fun σ G Q1 Q2 mono h => ?_)
    · refine ⟨ns, [], rfl, ?_, upd_same, List.Perm.refl _, (hp.same (same_new na)).same (same_new nb), Kp.same ((same_new na).trans (same_new nb))⟩
      rw [upd_ne nba, upd_same]
    · obtain ⟨left, found, rfl, ha, hb, perm, pot, kp⟩ := inv
      have apa : a ≠ p := fun e => by
        obtain ⟨g, m, c, hpp, _⟩ := hp
        rw [e, hpp] at na
        cases na
      have bpb : b ≠ p := fun e => by
        obtain ⟨g, m, c, hpp, _⟩ := hp
        rw [e, hpp] at kb
        cases kb
      refine ⟨.ref a, rfl, Nat.zero_le _, fun t nt => ?_⟩
      have st : Same G (upd G t (.lst [])) := same_new nt
      refine ⟨_, _, .lst (SqL.of (st _ _ ha)) (dp_ints K _ left), .lst (SqL.of upd_same) .nil, shaped_ints left, shaped_ints [], _, rfl, ?_⟩
      cases left with
      | nil =>
        show if (!PyData.eqv (.list []) (.list [])) = true then _ else _
        rw [show PyData.eqv (.list []) (.list []) = true by simp [PyData.eqv, PyData.eqvAll]]
        refine iteF ?_
        refine ⟨.ref b, rfl, ?_⟩
        refine q _ b found (kp.trans (Kp.same st)) ((pot.same st).less (by simp)) kb (st _ _ hb) ?_
        rw [List.append_nil] at perm
        exact perm
      | cons z rest =>
        show if (!PyData.eqv (.list (.int z :: rest.map PyData.int)) (.list [])) = true then _ else _
        rw [show PyData.eqv (.list (.int z :: rest.map PyData.int)) (.list []) = false by simp [PyData.eqv, PyData.eqvAll]]
        refine iteT ?_
        have len : (found ++ z :: rest).length = ns.length := perm.length_eq
        rw [List.length_append, List.length_cons] at len
        refine ⟨.ref b, rfl, .inl ⟨rfl, _, SqL.of (st _ _ hb)⟩, .ref a, rfl, .inl ⟨rfl, _, SqL.of (st _ _ ha)⟩, .ref p, rfl, .ref a, rfl, a, _, rfl, .inl (SqL.of (st _ _ ha)), p, _, n + rest.length, rfl, (pot.same st).less (by simp; omega), ?_, ?_, fun G2 r kp2 pot2 r0 r1 => ?_⟩
        · rw [List.length_map, List.length_cons]; omega
        · rw [List.length_map, List.length_cons]; omega
        have ha2 := kp2 _ _ apa (st _ _ ha)
        have hb2 := kp2 _ _ bpb (st _ _ hb)
        rw [List.length_map] at r1
        have hi : r.toNat < (z :: rest).length := by omega
        have gi : ((z :: rest).map V.int)[r.toNat]? = some (.int (z :: rest)[r.toNat]) := by
          rw [List.getElem?_map, List.getElem?_eq_getElem hi]
          rfl
        refine ⟨a, _, r, r.toNat, _, rfl, rfl, ha2, by omega, by simp only [List.length_cons] at r1; omega, ?_, gi, ?_⟩
        · rw [List.length_map]
          exact seqIndex_of r0 r1
        · have ha3 : upd G2 a (.lst (((z :: rest).map V.int).eraseIdx r.toNat)) a = some (.lst (((z :: rest).eraseIdx r.toNat).map V.int)) := by
            rw [upd_same, erase_mapI]
          have hb3 : upd G2 a (.lst (((z :: rest).map V.int).eraseIdx r.toNat)) b = some (.lst (found.map V.int)) := by
            rw [upd_ne nba.symm]
            exact hb2
          refine ⟨b, _, _, rfl, rfl, hb3, ?_, ?_⟩
          · rw [List.length_map]
            exact small1000 (by omega)
          have lenE : ((z :: rest).eraseIdx r.toNat).length = rest.length := by
            rw [List.length_eraseIdx_of_lt hi, List.length_cons]
            omega
          refine ⟨⟨(z :: rest).eraseIdx r.toNat, found ++ [(z :: rest)[r.toNat]], rfl, ?_, ?_, ?_, ?_, ?_⟩, ?_⟩
          · rw [upd_ne nba]
            exact ha3
          · rw [upd_same, List.map_append]
            rfl
          · refine List.Perm.trans ?_ perm
            rw [List.append_assoc]
            refine List.Perm.append_left found ?_
            exact take_out _ _ hi
          · obtain ⟨g, m, c, z1, z2⟩ := pot2
            rw [lenE]
            refine ⟨g, m, c, ?_, z2⟩
            rw [upd_ne bpb.symm, upd_ne apa.symm]
            exact z1
          · intro d o nd hd
            have da : d ≠ a := ne_of_none hd na
            have db : d ≠ b := ne_of_none hd kb
            rw [upd_ne db, upd_ne da]
            exact kp2 _ _ nd (st _ _ (kp _ _ nd hd))
          · show lenAt _ (some (some (.ref a))) < lenAt _ (some (some (.ref a)))
            rw [lenAt_of ((upd_ne nba).trans ha3), lenAt_of ha]
            rw [List.length_map, List.length_map, lenE, List.length_cons]
            omega
    · obtain ⟨v, e, z0, f⟩ := h
      refine ⟨v, e, z0, fun t nt => ?_⟩
      obtain ⟨d1, d2, a1, a2, a3, a4, kk, ek, qq⟩ := f t nt
      exact ⟨d1, d2, a1, a2, a3, a4, kk, ek, mono _ _ qq⟩
/-! ### line -/
def spLine : Sp := fun vs H Q _ => ∃ (n : Nat) (b : Int), vs = [.int n, .int b] ∧ 0 < n ∧ n ≤ 100 ∧
  ∀ (H' : Hp) (t : Addr), Same H H' → H t = none → H' t = some (.tup ((lineL n b).map V.int)) → Q (.ref t) H'
theorem ok_line {f : Addr} {fd : FuncData} {k : Nat} (F : Fun K "_law_line" "_law_line" sLine f fd) (mt : mg "tuple" = none) (mr : mg "range" = none) :
    FnOk P w K mg base CX0 (k + 1) f fd ["_law_size", "_law_begin"] spLine := by
  refine F.ok scLine (fun vs H Q E h => ?_) (fun cdv A outer s H vs Q E hr h => ?_)
  · obtain ⟨n, b, rfl, _⟩ := h
    rfl
  · obtain ⟨n, b, rfl, n0, n1, q⟩ := h
    refine ⟨_, pss_one (ps_ret (pe_callTy call_tuple_of (by rfl) mt (by decide +kernel) (pa_cons (pe_lc (own := [("_law_at", 2)]) (g := gName 2) (tt := tYes) rfl scLine.nd (pi_range1 rfl mr (pa_cons (pv 0) pa_nil))
      (blkOk_by (own := [("_law_at", 2)]) (N := ["_law_size", "_law_begin", "_law_at"]) (sc := defScope sLine) (by decide +kernel)) (fun _ _ _ _ _ => pg_name (i := 2) scLine.nd rfl (Or.inl rfl)) (fun _ _ _ _ _ => pts_nil)
      (fun _ _ _ _ _ => pe_op op_mod (pe_op op_add (pv 1) (pv 2)) (pv 0))) pa_nil))), ?_⟩
    refine ⟨.int n, rfl, n, rfl, by omega, by omega, fun D nD => ?_⟩
    have e0 : ((n : Int)).toNat = n := by omega
    refine lc_range (lo := 0) (n := (n : Int).toNat) (fun i G => Same H G ∧ G D = some (.lst (((lineL n b).take i).map V.int))) ⟨same_new nD, upd_same⟩ ?_ ?_
    · intro i G hi ⟨sm, gd⟩
      refine ⟨rfl, _, rfl, _, rfl, b, _, rfl, rfl, .int n, rfl, _, n, rfl, rfl, (show (0 : Int) < n by omega), _, gd, ?_, ?_⟩
      · rw [List.length_map, List.length_take]
        exact small1000 (by omega)
      · refine ⟨fun d o hd => ?_, ?_⟩
        · rw [upd_ne (ne_of_none hd nD)]
          exact sm _ _ hd
        · have lt : i < n := by omega
          have gi : (lineL n b)[i]? = some ((b + i) % n) := by
            unfold lineL
            rw [List.getElem?_map, List.getElem?_range lt]
            rfl
          rw [upd_same, List.take_add_one, gi, List.map_append]
          show some (HO.lst (_ ++ [V.int ((b + (0 + (i : Int))) % n)])) = _
          rw [Int.zero_add]
          rfl
    · intro G ⟨sm, gd⟩
      refine ⟨D, _, rfl, .inl ⟨SqL.of gd, fun t nt => ?_⟩⟩
      refine q _ t (sm.trans (same_new nt)) (sm.free nt) ?_
      rw [upd_same, List.take_of_length_le]
      simp [lineL]
end
end SL

namespace SL
open PySem PySem.Spec PyProof.Rows L2
theorem rgV_R (n : Nat) : rgV 0 n = (R n).map V.int := by
  unfold rgV R
  rw [List.map_map]
  have e : ((n : Int) - 0).toNat = n := by omega
  rw [e]
  refine List.map_congr_left fun i _ => ?_
  show V.int (0 + (i : Int)) = V.int i
  rw [Int.zero_add]
section
variable {P : Program} {w : World} {K : PySem.W.Frag} {mg : Str → Option Value} {base : Heap}
def spProbe : Sp := fun vs H Q _ => ∃ (p : Addr) (z n : Nat), vs = [.ref p, .int z] ∧ Pot H p (n + 70) ∧ 0 < z ∧ z ≤ 64 ∧
  ∀ (H' : Hp) (t : Addr) (ns : List Int), Kp p H H' → Pot H' p n → H t = none → H' t = some (.tup (ns.map V.int)) → ns.Perm (R z) → Q (.ref t) H'
theorem ok_probe {f fT fM fL : Addr} {fd fdT fdM fdL : FuncData} {k : Nat} (F : Fun K "_law_probe" "_law_probe" sProbe f fd) (FT : Fun K "_law_take" "_law_take" sTake fT fdT) (bT : Binds K fdT ["_law_pot_here", "_law_size"] []) (gT : mg "_law_take" = some (.ref fT))
    (FM : Fun K "_law_mixed" "_law_mixed" sMixed fM fdM) (bM : Binds K fdM ["_law_pot_here", "_law_some"] []) (gM : mg "_law_mixed" = some (.ref fM))
    (FL : Fun K "_law_line" "_law_line" sLine fL fdL) (bL : Binds K fdL ["_law_size", "_law_begin"] []) (gL : mg "_law_line" = some (.ref fL))
    (ml : mg "len" = none) (mli : mg "list" = none) (mt : mg "tuple" = none) (mr : mg "range" = none) : FnOk P w K mg base CX0 (k + 3) f fd ["_law_pot_here", "_law_size"] spProbe := by
  have GT : FnOk P w K mg base CX0 (k + 1) fT fdT ["_law_pot_here", "_law_size"] spTake := ok_take FT
  have GM : FnOk P w K mg base CX0 (k + 2) fM fdM ["_law_pot_here", "_law_some"] spMixed := ok_mixed FM FT bT gT ml mli
  have GL : FnOk P w K mg base CX0 (k + 1) fL fdL ["_law_size", "_law_begin"] spLine := ok_line FL mt mr
  refine F.ok scProbe (fun vs H Q E h => ?_) (fun cdv A outer s H vs Q E hr h => ?_)
  · obtain ⟨p, z, n, rfl, _⟩ := h
    rfl
  · obtain ⟨p, z, n, rfl, hp, z0, z1, q⟩ := h
    refine ⟨_, pss_cons (ps_if (pt_cmpR op_eq (pe_call GT (hr.mono (by omega)) (by rfl) gT FT.kp bT .nil pass0 (pa_cons (pv 0) (pa_cons pe_int pa_nil))) pe_int (nomark _))
        (pss_one (ps_ret (pe_call GL (hr.mono (by omega)) (by rfl) gL FL.kp bL .nil pass0 (pa_cons (pv 1) (pa_cons (pe_call GT (hr.mono (by omega)) (by rfl) gT FT.kp bT .nil pass0 (pa_cons (pv 0) (pa_cons (pv 1) pa_nil))) pa_nil))))) pss_nil)
      (pss_one (ps_ret (pe_callTy call_tuple_of (by rfl) mt (by decide +kernel) (pa_cons (pe_call GM hr (by rfl) gM FM.kp bM .nil pass0 (pa_cons (pv 0) (pa_cons (pe_listRg rfl (by rfl) mli (prg_1 (by rfl) mr (pv 1))) pa_nil))) pa_nil)))), ?_⟩
    refine ⟨.ref p, rfl, p, 3, n + 69, rfl, hp, by decide, by decide, fun H1 r kp1 hp1 r0 r1 => ?_⟩
    refine ⟨rfl, _, rfl, ite2 (fun e => ?_) (fun e => ?_)⟩
    · refine ⟨.int z, rfl, .ref p, rfl, .int z, rfl, p, z, n + 68, rfl, hp1, by omega, by omega, fun H2 b kp2 hp2 b0 b1 => ?_⟩
      refine ⟨z, b, rfl, z0, by omega, fun H3 t sm nt ht => ?_⟩
      have kp : Kp p H H3 := (kp1.trans kp2).trans (Kp.same sm)
      refine q H3 t _ kp ((hp2.same sm).less (by omega)) ?_ ht (line_perm z0)
      cases hh : H t with
      | none => rfl
      | some o =>
        by_cases etp : t = p
        · obtain ⟨xs, hx⟩ := hp2.lst
          rw [etp, hx] at nt
          cases nt
        · rw [(kp1.trans kp2) _ _ etp hh] at nt
          cases nt
    · refine ⟨.ref p, rfl, .int z, rfl, z, rfl, ?_, fun l nl => ?_⟩
      · exact RgOk.of_le (by omega) (by omega) (by omega) (by omega)
      · rw [rgV_R]
        have s1 : Same H1 (upd H1 l (.lst ((R z).map V.int))) := same_new nl
        refine ⟨p, l, R z, n, rfl, (hp1.same s1).less (by rw [R_len]; omega), upd_same, by rw [R_len]; omega, fun H2 t out kp2 hp2 nt ht perm => ?_⟩
        refine ⟨t, _, rfl, .inl ⟨SqL.of ht, fun u nu => ?_⟩⟩
        have kp : Kp p H (upd H2 u (.tup (out.map V.int))) := ((kp1.trans (Kp.same s1)).trans kp2).trans (Kp.same (same_new nu))
        refine q _ u out kp (hp2.same (same_new nu)) ?_ upd_same perm
        cases hh : H u with
        | none => rfl
        | some o =>
          by_cases etp : u = p
          · obtain ⟨xs, hx⟩ := hp2.lst
            rw [etp, hx] at nu
            cases nu
          · rw [((kp1.trans (Kp.same s1)).trans kp2) _ _ etp hh] at nu
            cases nu
end
end SL

namespace SL
open PySem PySem.Spec PyProof.Rows L2
/-! ### data: tuples and lists (none of them the pot) of None, bools, ints, texts -/
mutual
inductive Dt (p : Addr) (H : Hp) : V → PyData → Prop
  | non : Dt p H .non .none
  | bl (b : Bool) : Dt p H (.bl b) (.bool b)
  | int (i : Int) : Dt p H (.int i) (.int i)
  | str (x : Str) : Dt p H (.str x) (.str x)
  | tup {a : Addr} {xs : List V} {ds : List PyData} : H a = some (.tup xs) → DtAll p H xs ds → Dt p H (.ref a) (.tuple ds)
  | lst {a : Addr} {xs : List V} {ds : List PyData} : H a = some (.lst xs) → a ≠ p → DtAll p H xs ds → Dt p H (.ref a) (.list ds)
inductive DtAll (p : Addr) (H : Hp) : List V → List PyData → Prop
  | nil : DtAll p H [] []
  | cons {v : V} {vs : List V} {d : PyData} {ds : List PyData} : Dt p H v d → DtAll p H vs ds → DtAll p H (v :: vs) (d :: ds)
end
mutual
theorem Dt.dp {K : PySem.W.Frag} {p : Addr} {H : Hp} : ∀ {v : V} {d : PyData}, Dt p H v d → Dp K H v d
  | _, _, .non => .non
  | _, _, .bl b => .bl b
  | _, _, .int i => .int i
  | _, _, .str x => .str x
  | _, _, .tup h a => .tup (SqT.of h) a.dp
  | _, _, .lst h _ a => .lst (SqL.of h) a.dp
theorem DtAll.dp {K : PySem.W.Frag} {p : Addr} {H : Hp} : ∀ {v : List V} {d : List PyData}, DtAll p H v d → DpAll K H v d
  | _, _, .nil => .nil
  | _, _, .cons h t => .cons h.dp t.dp
end
mutual
theorem Dt.plain {p : Addr} {H : Hp} : ∀ {v : V} {d : PyData}, Dt p H v d → d.hasDict = false
  | _, _, .non => by simp [PyData.hasDict]
  | _, _, .bl b => by simp [PyData.hasDict]
  | _, _, .int i => by simp [PyData.hasDict]
  | _, _, .str x => by simp [PyData.hasDict]
  | _, _, .tup h a => by
    have := a.plain
    simpa [PyData.hasDict] using this
  | _, _, .lst h _ a => by
    have := a.plain
    simpa [PyData.hasDict] using this
theorem DtAll.plain {p : Addr} {H : Hp} : ∀ {v : List V} {d : List PyData}, DtAll p H v d → PyData.hasDictAll d = false
  | _, _, .nil => by simp [PyData.hasDictAll]
  | _, _, .cons h t => by
    have h1 := h.plain
    have h2 := t.plain
    simp [PyData.hasDictAll, h1, h2]
end
/-- the tuples stand as they were -/
def Tk (H H' : Hp) : Prop := ∀ b xs, H b = some (.tup xs) → H' b = some (.tup xs)
/-- the tuples, and the lists but the pot -/
def Dk (p : Addr) (H H' : Hp) : Prop := Tk H H' ∧ ∀ b xs, b ≠ p → H b = some (.lst xs) → H' b = some (.lst xs)
theorem Same.tk {H H' : Hp} (s : Same H H') : Tk H H' := fun b xs h => s _ _ h
theorem Same.dk {p : Addr} {H H' : Hp} (s : Same H H') : Dk p H H' := ⟨fun b xs h => s _ _ h, fun b xs _ h => s _ _ h⟩
theorem Kp.tk {p : Addr} {H H' : Hp} {xs : List V} (k : Kp p H H') (h : H p = some (.lst xs)) : Tk H H' := fun b ys e => by
  refine k _ _ (fun z => ?_) e
  rw [z, h] at e
  cases e
theorem Kp.dk {p : Addr} {H H' : Hp} {xs : List V} (k : Kp p H H') (h : H p = some (.lst xs)) : Dk p H H' := ⟨k.tk h, fun b ys n e => k _ _ n e⟩
theorem Dk.trans {p : Addr} {H H1 H2 : Hp} (a : Dk p H H1) (b : Dk p H1 H2) : Dk p H H2 := ⟨fun c xs h => b.1 _ _ (a.1 _ _ h), fun c xs n h => b.2 _ _ n (a.2 _ _ n h)⟩
mutual
theorem Dt.keep {p : Addr} {H H' : Hp} (k : Dk p H H') : ∀ {v : V} {d : PyData}, Dt p H v d → Dt p H' v d
  | _, _, .non => .non
  | _, _, .bl b => .bl b
  | _, _, .int i => .int i
  | _, _, .str x => .str x
  | _, _, .tup h a => .tup (k.1 _ _ h) (a.keep k)
  | _, _, .lst h n a => .lst (k.2 _ _ n h) n (a.keep k)
theorem DtAll.keep {p : Addr} {H H' : Hp} (k : Dk p H H') : ∀ {v : List V} {d : List PyData}, DtAll p H v d → DtAll p H' v d
  | _, _, .nil => .nil
  | _, _, .cons h t => .cons (h.keep k) (t.keep k)
end
theorem DtAll.len {p : Addr} {H : Hp} : ∀ {v : List V} {d : List PyData}, DtAll p H v d → v.length = d.length
  | _, _, .nil => rfl
  | _, _, .cons h t => by rw [List.length_cons, List.length_cons, t.len]
theorem DtAll.get {p : Addr} {H : Hp} : ∀ {v : List V} {d : List PyData}, DtAll p H v d → ∀ (i : Nat) (x : V), v[i]? = some x → ∃ y, d[i]? = some y ∧ Dt p H x y
  | _, _, .nil, i, x, e => by simp at e
  | _, _, .cons h t, 0, x, e => by
    have e' := Option.some.inj e
    subst e'
    exact ⟨_, rfl, h⟩
  | _, _, .cons h t, i + 1, x, e => t.get i x e
theorem DtAll.ints {p : Addr} {H : Hp} : ∀ {ns : List Int} {v : List V}, DtAll p H v (ns.map PyData.int) → v = ns.map V.int
  | [], _, .nil => rfl
  | n :: ns, _, .cons (.int _) t => by
    rw [DtAll.ints t]
    rfl
theorem dt_ints {p : Addr} {H : Hp} : ∀ ns : List Int, DtAll p H (ns.map V.int) (ns.map PyData.int)
  | [] => .nil
  | n :: ns => .cons (.int n) (dt_ints ns)
/-- what is asked about: such data, or an empty dict; none is the pot -/
inductive Th (p : Addr) (H : Hp) : V → PyData → Prop
  | dat {v : V} {d : PyData} : Dt p H v d → Th p H v d
  | dct {a : Addr} : H a = some (.dK []) → a ≠ p → Th p H (.ref a) (.dict [])
theorem Th.da {p : Addr} {K : PySem.W.Frag} {H : Hp} {v : V} {d : PyData} (h : Th p H v d) : Da K H v d := by
  cases h with
  | dat h => exact .inl ⟨h.dp, h.plain⟩
  | dct h _ => exact .inr ⟨_, rfl, h, rfl⟩
theorem Th.same {p : Addr} {H H' : Hp} {v : V} {d : PyData} (h : Th p H v d) (s : Same H H') : Th p H' v d := by
  cases h with
  | dat h => exact .dat (h.keep (Same.dk s))
  | dct h n => exact .dct (s _ _ h) n
theorem Th.kp {p : Addr} {H H' : Hp} {v : V} {d : PyData} {xs : List V} (h : Th p H v d) (k : Kp p H H') (hp : H p = some (.lst xs)) : Th p H' v d := by
  cases h with
  | dat h => exact .dat (h.keep (k.dk hp))
  | dct h n => exact .dct (k _ _ n h) n
def tyN : PyData → String
  | .none => "NoneType" | .bool _ => "bool" | .int _ => "int" | .str _ => "str" | .list _ => "list" | .tuple _ => "tuple" | .dict _ => "dict"
theorem Dt.ty {p : Addr} {K : PySem.W.Frag} {H : Hp} {v : V} {d : PyData} (h : Dt p H v d) : TyX K H v (.type (tyN d)) := by
  cases h with
  | non => exact .base .non
  | bl b => exact .base (.bl b)
  | int i => exact .base (.int i)
  | str x => exact .base (.str x)
  | tup h a => exact .base (.tup h)
  | lst h _ a => exact .base (.lst h)
theorem Th.ty {p : Addr} {K : PySem.W.Frag} {H : Hp} {v : V} {d : PyData} (h : Th p H v d) : TyX K H v (.type (tyN d)) := by
  cases h with
  | dat h => exact h.ty
  | dct h _ => exact .base (.dK h)
def isI : PyData → Bool
  | .int _ => true
  | .bool _ => true
  | _ => false
def isB : PyData → Bool
  | .bool _ => true
  | _ => false
def isT : PyData → Bool
  | .tuple _ => true
  | _ => false
theorem kit_int (d : PyData) : kitB (tyN d) "int" = some (isI d) := by cases d <;> simp only [tyN, isI] <;> decide +kernel
theorem kit_bool (d : PyData) : kitB (tyN d) "bool" = some (isB d) := by cases d <;> simp only [tyN, isB] <;> decide +kernel
theorem kit_tuple (d : PyData) : kitB (tyN d) "tuple" = some (isT d) := by cases d <;> simp only [tyN, isT] <;> decide +kernel
/-- a number from lo to hi -/
def inR (lo hi : Int) : PyData → Bool
  | .int i => decide (lo ≤ i) && decide (i ≤ hi)
  | _ => false
theorem scWithin : FnScope ["value", "low", "high"] ["value", "low", "high"] (defScope sWithin) := ⟨rfl, rfl, rfl, by decide +kernel, rfl, by decide +kernel, by decide +kernel⟩
theorem scNumber : FnScope ["_law_thing", "_law_below"] ["_law_thing", "_law_below"] (defScope sNumber) := ⟨rfl, rfl, rfl, by decide +kernel, rfl, by decide +kernel, by decide +kernel⟩
theorem scOrder : FnScope ["count", "value", "slot"] ["count", "value"] (defScope sOrder) := ⟨rfl, rfl, rfl, by decide +kernel, rfl, by decide +kernel, by decide +kernel⟩
theorem scIsProbe : FnScope ["_law_size", "_law_thing", "_law_one"] ["_law_size", "_law_thing"] (defScope sIsProbe) := ⟨rfl, rfl, rfl, by decide +kernel, rfl, by decide +kernel, by decide +kernel⟩
section
variable {P : Program} {w : World} {K : PySem.W.Frag} {mg : Str → Option Value} {base : Heap}
def spWithin : Sp := fun vs H Q _ => ∃ (p : Addr) (v : V) (d : PyData) (lo hi : Int), vs = [v, .int lo, .int hi] ∧ Dt p H v d ∧ Q (.bl (inR lo hi d)) H
theorem ok_within {f : Addr} {fd : FuncData} {k : Nat} (F : Fun K "is_integer_within" "is_integer_within" sWithin f fd) (mi : mg "isinstance" = none) (mn : mg "int" = none) (mb : mg "bool" = none) :
    FnOk P w K mg base CX0 (k + 1) f fd ["value", "low", "high"] spWithin := by
  refine F.ok scWithin (fun vs H Q E h => ?_) (fun cdv A outer s H vs Q E hr h => ?_)
  · obtain ⟨p, v, d, lo, hi, rfl, _⟩ := h
    rfl
  · obtain ⟨p, v, d, lo, hi, rfl, hd, q⟩ := h
    refine ⟨_, pss_one (ps_ret (pe_and (pe_callB call_isi (by rfl) mi (by decide +kernel) (pa_cons (pv 0) (pa_cons (pe_bltn (v := .ty "int") (by rfl) mn (by decide +kernel) rfl) pa_nil)))
      (pe_and (pe_not (pe_callB call_isi (by rfl) mi (by decide +kernel) (pa_cons (pv 0) (pa_cons (pe_bltn (v := .ty "bool") (by rfl) mb (by decide +kernel) rfl) pa_nil))))
        (pe_one (pe_chain op_le op_le (pv 1) (pv 0) (pv 2)))))), ?_⟩
    refine ⟨v, rfl, v, .ty "int", _, _, _, rfl, .ty "int", hd.ty, kit_ty (kit_int d), _, rfl, ite2 (fun e => ?_) (fun e => ?_)⟩
    · refine ⟨v, rfl, v, .ty "bool", _, _, _, rfl, .ty "bool", hd.ty, kit_ty (kit_bool d), _, rfl, _, rfl, ite2 (fun e2 => ?_) (fun e2 => ?_)⟩
      · cases hd with
        | int i =>
          refine ⟨.int lo, rfl, .int i, rfl, lo, i, rfl, rfl, _, rfl, ite2 (fun e3 => ?_) (fun e3 => ?_)⟩
          · refine ⟨.int hi, rfl, i, hi, rfl, rfl, ?_⟩
            have z : inR lo hi (.int i) = decide (i ≤ hi) := by
              show (decide (lo ≤ i) && decide (i ≤ hi)) = _
              rw [e3, Bool.true_and]
            rw [z] at q
            exact q
          · have z : inR lo hi (.int i) = false := by
              show (decide (lo ≤ i) && decide (i ≤ hi)) = _
              rw [Bool.not_eq_true] at e3
              rw [e3, Bool.false_and]
            rw [z] at q
            exact q
        | non => cases e
        | bl b => cases e2
        | str x => cases e
        | tup h a => cases e
        | lst h _ a => cases e
      · have z : inR lo hi d = false := by
          cases d <;> first | rfl | exact absurd rfl e2
        rw [z] at q
        exact q
    · have z : inR lo hi d = false := by
        cases d <;> first | rfl | exact absurd rfl e
      rw [z] at q
      exact q
def spNumber : Sp := fun vs H Q _ => ∃ (p : Addr) (v : V) (d : PyData) (b : Int), vs = [v, .int b] ∧ Dt p H v d ∧ Q (.bl (inR 0 (b - 1) d)) H
theorem ok_number {f : Addr} {fd : FuncData} {k : Nat} (F : Fun K "_law_is_number" "_law_is_number" sNumber f fd) (mi : mg "isinstance" = none) (mn : mg "int" = none) (mb : mg "bool" = none) :
    FnOk P w K mg base CX0 (k + 1) f fd ["_law_thing", "_law_below"] spNumber := by
  refine F.ok scNumber (fun vs H Q E h => ?_) (fun cdv A outer s H vs Q E hr h => ?_)
  · obtain ⟨p, v, d, b, rfl, _⟩ := h
    rfl
  · obtain ⟨p, v, d, hi, rfl, hd, q⟩ := h
    refine ⟨_, pss_one (ps_ret (pe_and (pe_callB call_isi (by rfl) mi (by decide +kernel) (pa_cons (pv 0) (pa_cons (pe_bltn (v := .ty "int") (by rfl) mn (by decide +kernel) rfl) pa_nil)))
      (pe_and (pe_not (pe_callB call_isi (by rfl) mi (by decide +kernel) (pa_cons (pv 0) (pa_cons (pe_bltn (v := .ty "bool") (by rfl) mb (by decide +kernel) rfl) pa_nil))))
        (pe_one (pe_chain op_le op_lt pe_int (pv 0) (pv 1)))))), ?_⟩
    refine ⟨v, rfl, v, .ty "int", _, _, _, rfl, .ty "int", hd.ty, kit_ty (kit_int d), _, rfl, ite2 (fun e => ?_) (fun e => ?_)⟩
    · refine ⟨v, rfl, v, .ty "bool", _, _, _, rfl, .ty "bool", hd.ty, kit_ty (kit_bool d), _, rfl, _, rfl, ite2 (fun e2 => ?_) (fun e2 => ?_)⟩
      · cases hd with
        | int i =>
          refine ⟨.int i, rfl, 0, i, rfl, rfl, _, rfl, ite2 (fun e3 => ?_) (fun e3 => ?_)⟩
          · refine ⟨.int hi, rfl, i, hi, rfl, rfl, ?_⟩
            have z : inR 0 (hi - 1) (.int i) = decide (i < hi) := by
              show (decide (0 ≤ i) && decide (i ≤ hi - 1)) = _
              rw [e3, Bool.true_and]
              exact decide_eq_decide.mpr (by omega)
            rw [z] at q
            exact q
          · have z : inR 0 (hi - 1) (.int i) = false := by
              show (decide (0 ≤ i) && decide (i ≤ hi - 1)) = _
              rw [Bool.not_eq_true] at e3
              rw [e3, Bool.false_and]
            rw [z] at q
            exact q
        | non => cases e
        | bl b => cases e2
        | str x => cases e
        | tup h a => cases e
        | lst h _ a => cases e
      · have z : inR 0 (hi - 1) d = false := by
          cases d <;> first | rfl | exact absurd rfl e2
        rw [z] at q
        exact q
    · have z : inR 0 (hi - 1) d = false := by
        cases d <;> first | rfl | exact absurd rfl e
      rw [z] at q
      exact q
end
end SL

namespace SL
open PySem PySem.Spec PyProof.Rows L2
/-- a probe order of n slots -/
def IsP (n : Nat) (d : PyData) : Prop := ∃ ns : List Int, d = .tuple (ns.map PyData.int) ∧ ns.Perm (R n)
theorem all_in {n : Nat} : ∀ {ds : List PyData}, (ds.map (inR 0 ((n : Int) - 1))).all id = true → ∃ ns : List Int, ds = ns.map PyData.int ∧ ∀ x ∈ ns, x ∈ R n
  | [], _ => ⟨[], rfl, fun x hx => by cases hx⟩
  | d :: ds, h => by
    rw [List.map_cons, List.all_cons, Bool.and_eq_true] at h
    obtain ⟨ns, e, hn⟩ := all_in (n := n) h.2
    have h1 : inR 0 ((n : Int) - 1) d = true := h.1
    cases d with
    | int i =>
      have h2 : (decide (0 ≤ i) && decide (i ≤ (n : Int) - 1)) = true := h1
      rw [Bool.and_eq_true, decide_eq_true_eq, decide_eq_true_eq] at h2
      refine ⟨i :: ns, by rw [e]; rfl, fun x hx => ?_⟩
      rcases List.mem_cons.mp hx with z | z
      · rw [z]
        exact R_mem.mpr (by omega)
      · exact hn x z
    | none => cases h1
    | bool b => cases h1
    | str x => cases h1
    | list xs => cases h1
    | tuple xs => cases h1
    | dict xs => cases h1
theorem all_of {n : Nat} : ∀ {ns : List Int}, (∀ x ∈ ns, x ∈ R n) → ((ns.map PyData.int).map (inR 0 ((n : Int) - 1))).all id = true
  | [], _ => rfl
  | i :: ns, h => by
    have z := R_mem.mp (h i List.mem_cons_self)
    rw [List.map_cons, List.map_cons, List.all_cons, Bool.and_eq_true]
    refine ⟨?_, all_of fun x hx => h x (List.mem_cons_of_mem _ hx)⟩
    show (decide (0 ≤ i) && decide (i ≤ (n : Int) - 1)) = true
    rw [Bool.and_eq_true, decide_eq_true_eq, decide_eq_true_eq]
    omega
theorem IsP.all {n : Nat} {ds : List PyData} (h : IsP n (.tuple ds)) : (ds.map (inR 0 ((n : Int) - 1))).all id = true ∧ ds.length = n := by
  obtain ⟨ns, e, p⟩ := h
  cases e
  exact ⟨all_of fun x hx => p.mem_iff.mp hx, by rw [List.length_map, p.length_eq, R_len]⟩
theorem ints_inj : ∀ {a b : List Int}, a.map PyData.int = b.map PyData.int → a = b
  | [], [], _ => rfl
  | [], _ :: _, h => by cases h
  | _ :: _, [], h => by cases h
  | x :: a, y :: b, h => by
    rw [List.map_cons, List.map_cons] at h
    injection h with h1 h2
    injection h1 with h3
    rw [h3, ints_inj h2]
theorem eqv_ints : ∀ (a b : List Int), PyData.eqvAll (a.map PyData.int) (b.map PyData.int) = decide (a = b)
  | [], [] => by simp [PyData.eqvAll]
  | [], _ :: _ => by simp [PyData.eqvAll]
  | _ :: _, [] => by simp [PyData.eqvAll]
  | x :: a, y :: b => by
    rw [List.map_cons, List.map_cons]
    simp only [PyData.eqvAll, PyData.eqv, eqv_ints a b]
    by_cases h : x = y
    · subst h
      by_cases h2 : a = b
      · simp [h2]
      · simp [h2]
    · simp [h]
theorem IsP.iff {n : Nat} {ns : List Int} : IsP n (.tuple (ns.map PyData.int)) ↔ ns.Perm (R n) := by
  constructor
  · rintro ⟨ms, e, p⟩
    injection e with e1
    rw [ints_inj e1]
    exact p
  · intro p
    exact ⟨ns, rfl, p⟩
section
variable {P : Program} {w : World} {K : PySem.W.Frag} {mg : Str → Option Value} {base : Heap}
def spOrder : Sp := fun vs H Q _ => ∃ (p : Addr) (n : Nat) (v : V) (d : PyData), vs = [.int n, v] ∧ Th p H v d ∧ (∀ ds, d = .tuple ds → ds.length ≤ 200) ∧ n ≤ 1000 ∧
  ∀ (b : Bool) (H' : Hp), Same H H' → (b = true ↔ IsP n d) → Q (.bl b) H'
theorem ok_order {f fW : Addr} {fd fdW : FuncData} {k : Nat} (F : Fun K "is_probe_order" "is_probe_order" sOrder f fd)
    (FW : Fun K "is_integer_within" "is_integer_within" sWithin fW fdW) (bW : Binds K fdW ["value", "low", "high"] []) (gW : mg "is_integer_within" = some (.ref fW))
    (mi : mg "isinstance" = none) (mn : mg "int" = none) (mb : mg "bool" = none) (mt : mg "tuple" = none) (ml : mg "len" = none) (ma : mg "all" = none) (ms : mg "set" = none) :
    FnOk P w K mg base CX0 (k + 2) f fd ["count", "value"] spOrder := by
  have GW : FnOk P w K mg base CX0 (k + 1) fW fdW ["value", "low", "high"] spWithin := ok_within FW mi mn mb
  refine F.ok scOrder (fun vs H Q E h => ?_) (fun cdv A outer s H vs Q E hr h => ?_)
  · obtain ⟨p, n, v, d, rfl, _⟩ := h
    rfl
  · obtain ⟨p, n, v, d, rfl, th, few, n1, q⟩ := h
    refine ⟨_, pss_cons (ps_if (PW.pt (pw_or (pt_not (pt_val (pe_callB call_isi (by rfl) mi (by decide +kernel) (pa_cons (pv 1) (pa_cons (pe_bltn (v := .ty "tuple") (by rfl) mt (by decide +kernel) rfl) pa_nil)))))
          (pw_or1 (pt_cmpR op_ne (pe_callB call_len_seq (by rfl) ml PySem.boot_len (pa_cons (pv 1) pa_nil)) (pv 0) (nomark _))))) (pss_one (ps_ret pe_bl)) pss_nil)
      (pss_one (ps_ret (pe_and (pe_callB (cr_all rfl) (by rfl) ma (by decide +kernel) (pa_cons (pe_lc (own := [("slot", 2)]) (g := gName 2) (tt := tYes) rfl scOrder.nd (pi_tup (pv 1))
          (blkOk_by (own := [("slot", 2)]) (N := ["count", "value", "slot"]) (sc := defScope sOrder) (by decide +kernel)) (fun _ _ _ _ _ => pg_name (i := 2) scOrder.nd rfl (Or.inl rfl)) (fun _ _ _ _ _ => pts_nil)
          (fun _ _ _ _ _ => pe_call GW hr (by rfl) gW FW.kp bW .nil pass0 (pa_cons (pv 2) (pa_cons pe_int (pa_cons (pe_op op_sub (pv 0) pe_int) pa_nil))))) pa_nil))
        (pe_one (pe_cmpR op_eq (pe_lenSetT (by rfl) ml (by rfl) ms (pv 1)) (pv 0) (nomark _)))))), ?_⟩
    refine ⟨v, rfl, v, .ty "tuple", _, _, _, rfl, .ty "tuple", th.ty, kit_ty (kit_tuple d), _, rfl, ?_⟩
    by_cases isTu : isT d = true
    · rw [isTu]
      -- a tuple
      obtain ⟨a, xs, ds, rfl, rfl, ha, al⟩ : ∃ (a : Addr) (xs : List V) (ds : List PyData), v = .ref a ∧ d = .tuple ds ∧ H a = some (.tup xs) ∧ DtAll p H xs ds := by
        cases th with
        | dat h =>
          cases h with
          | tup h a => exact ⟨_, _, _, rfl, rfl, h, a⟩
          | non => cases isTu
          | bl b => cases isTu
          | int i => cases isTu
          | str x => cases isTu
          | lst h _ a => cases isTu
        | dct h _ => cases isTu
      have lenx := al.len
      refine ⟨.ref a, rfl, a, xs, rfl, .inr (SqT.of ha), .int n, rfl, rfl, _, rfl, ite2 (fun e => ?_) (fun e => ?_)⟩
      · -- another length
        refine q false H (Same.refl H) ⟨(fun z => by cases z), fun z => ?_⟩
        have ne : ¬ ((xs.length : Int) = n) := fun w => by
          rw [w] at e
          simp at e
        exact absurd (by rw [lenx, z.all.2]) ne
      · have eq : (xs.length : Int) = n := by
          by_cases w : (xs.length : Int) = n
          · exact w
          · refine absurd ?_ e
            simp [w]
        refine ⟨.ref a, rfl, a, rfl, ⟨_, SqT.of ha⟩, fun D nD => ?_⟩
        refine lc_tup (K := K) (a := a) (xs := xs) (fun i G => Same H G ∧ G D = some (.lst (((ds.map (inR 0 ((n : Int) - 1))).take i).map V.bl))) ⟨same_new nD, upd_same⟩ (fun i G _ h => SqT.of (h.1 _ _ ha)) ?_ ?_
        · intro i x G hx ⟨sm, gd⟩
          obtain ⟨y, hy, dy⟩ := al.get i x hx
          have hlt : i < xs.length := (List.getElem?_eq_some_iff.mp hx).1
          refine ⟨rfl, x, rfl, .int n, rfl, n, 1, rfl, rfl, p, x, y, 0, (n : Int) - 1, rfl, dy.keep (Same.dk sm), _, gd, ?_, ?_⟩
          · rw [List.length_map, List.length_take]
            exact small1000 (by omega)
          · refine ⟨fun c o hc => ?_, ?_⟩
            · rw [upd_ne (ne_of_none hc nD)]
              exact sm _ _ hc
            · have gi : (ds.map (inR 0 ((n : Int) - 1)))[i]? = some (inR 0 ((n : Int) - 1) y) := by
                rw [List.getElem?_map, hy]
                rfl
              rw [upd_same, List.take_add_one, gi, List.map_append]
              rfl
        · intro G ⟨sm, gd⟩
          have full : (ds.map (inR 0 ((n : Int) - 1))).take xs.length = ds.map (inR 0 ((n : Int) - 1)) := List.take_of_length_le (by rw [List.length_map]; omega)
          rw [full] at gd
          refine ⟨D, _, rfl, SqL.of gd, _, rfl, ite2 (fun e1 => ?_) (fun e1 => ?_)⟩
          · obtain ⟨ns, rfl, inside⟩ := all_in e1
            have ex : xs = ns.map V.int := al.ints
            subst ex
            refine ⟨.ref a, rfl, a, ns, rfl, SqT.of (sm _ _ ha), ?_, fun ks nd mem => ?_⟩
            · have := few _ rfl
              rw [List.length_map] at this
              omega
            · refine ⟨.int n, rfl, rfl, ?_⟩
              refine q _ G sm ?_
              rw [IsP.iff, ← probe_by_set nd mem inside, decide_eq_true_eq]
              rw [List.length_map] at eq
              constructor
              · intro z
                injection z with z
                omega
              · rintro ⟨z1, z2⟩
                rw [z2]
          · refine q false G sm ⟨(fun z => by cases z), fun z => absurd z.all.1 e1⟩
    · rw [Bool.not_eq_true] at isTu
      rw [isTu]
      refine q false H (Same.refl H) ⟨(fun z => by cases z), ?_⟩
      rintro ⟨ns, rfl, _⟩
      cases isTu
def spIsProbe : Sp := spOrder
theorem ok_isProbe {f fW : Addr} {fd fdW : FuncData} {k : Nat} (F : Fun K "_law_is_probe" "_law_is_probe" sIsProbe f fd)
    (FW : Fun K "_law_is_number" "_law_is_number" sNumber fW fdW) (bW : Binds K fdW ["_law_thing", "_law_below"] []) (gW : mg "_law_is_number" = some (.ref fW))
    (mi : mg "isinstance" = none) (mn : mg "int" = none) (mb : mg "bool" = none) (mt : mg "tuple" = none) (ma : mg "all" = none) (ms : mg "sorted" = none) (mli : mg "list" = none) (mr : mg "range" = none) :
    FnOk P w K mg base CX0 (k + 2) f fd ["_law_size", "_law_thing"] spIsProbe := by
  have GW : FnOk P w K mg base CX0 (k + 1) fW fdW ["_law_thing", "_law_below"] spNumber := ok_number FW mi mn mb
  refine F.ok scIsProbe (fun vs H Q E h => ?_) (fun cdv A outer s H vs Q E hr h => ?_)
  · obtain ⟨p, n, v, d, rfl, _⟩ := h
    rfl
  · obtain ⟨p, n, v, d, rfl, th, few, n1, q⟩ := h
    refine ⟨_, pss_cons (ps_if (PW.pt (pw_or (pt_not (pt_val (pe_callB call_isi (by rfl) mi (by decide +kernel) (pa_cons (pv 1) (pa_cons (pe_bltn (v := .ty "tuple") (by rfl) mt (by decide +kernel) rfl) pa_nil)))))
          (pw_or1 (pt_not (pt_val (pe_callB (cr_all rfl) (by rfl) ma (by decide +kernel) (pa_cons (pe_lc (own := [("_law_one", 2)]) (g := gName 2) (tt := tYes) rfl scIsProbe.nd (pi_tup (pv 1))
          (blkOk_by (own := [("_law_one", 2)]) (N := ["_law_size", "_law_thing", "_law_one"]) (sc := defScope sIsProbe) (by decide +kernel)) (fun _ _ _ _ _ => pg_name (i := 2) scIsProbe.nd rfl (Or.inl rfl)) (fun _ _ _ _ _ => pts_nil)
          (fun _ _ _ _ _ => pe_call GW hr (by rfl) gW FW.kp bW .nil pass0 (pa_cons (pv 2) (pa_cons (pv 0) pa_nil)))) pa_nil))))))) (pss_one (ps_ret pe_bl)) pss_nil)
      (pss_one (ps_ret (pe_cmpR (op_eqD hr.units) (pe_callB cr_sortT (by rfl) ms (by decide +kernel) (pa_cons (pv 1) pa_nil)) (pe_listRg rfl (by rfl) mli (prg_1 (by rfl) mr (pv 0))) (nomark _)))), ?_⟩
    refine ⟨v, rfl, v, .ty "tuple", _, _, _, rfl, .ty "tuple", th.ty, kit_ty (kit_tuple d), _, rfl, ?_⟩
    by_cases isTu : isT d = true
    · rw [isTu]
      obtain ⟨a, xs, ds, rfl, rfl, ha, al⟩ : ∃ (a : Addr) (xs : List V) (ds : List PyData), v = .ref a ∧ d = .tuple ds ∧ H a = some (.tup xs) ∧ DtAll p H xs ds := by
        cases th with
        | dat h =>
          cases h with
          | tup h a => exact ⟨_, _, _, rfl, rfl, h, a⟩
          | non => cases isTu
          | bl b => cases isTu
          | int i => cases isTu
          | str x => cases isTu
          | lst h _ a => cases isTu
        | dct h _ => cases isTu
      have lenx := al.len
      have fewx := few _ rfl
      refine ⟨.ref a, rfl, a, rfl, ⟨_, SqT.of ha⟩, fun D nD => ?_⟩
      refine lc_tup (K := K) (a := a) (xs := xs) (fun i G => Same H G ∧ G D = some (.lst (((ds.map (inR 0 ((n : Int) - 1))).take i).map V.bl))) ⟨same_new nD, upd_same⟩ (fun i G _ h => SqT.of (h.1 _ _ ha)) ?_ ?_
      · intro i x G hx ⟨sm, gd⟩
        obtain ⟨y, hy, dy⟩ := al.get i x hx
        have hlt : i < xs.length := (List.getElem?_eq_some_iff.mp hx).1
        refine ⟨rfl, x, rfl, .int n, rfl, p, x, y, n, rfl, dy.keep (Same.dk sm), _, gd, ?_, ?_⟩
        · rw [List.length_map, List.length_take]
          exact small1000 (by omega)
        · refine ⟨fun c o hc => ?_, ?_⟩
          · rw [upd_ne (ne_of_none hc nD)]
            exact sm _ _ hc
          · have gi : (ds.map (inR 0 ((n : Int) - 1)))[i]? = some (inR 0 ((n : Int) - 1) y) := by
              rw [List.getElem?_map, hy]
              rfl
            rw [upd_same, List.take_add_one, gi, List.map_append]
            rfl
      · intro G ⟨sm, gd⟩
        have full : (ds.map (inR 0 ((n : Int) - 1))).take xs.length = ds.map (inR 0 ((n : Int) - 1)) := List.take_of_length_le (by rw [List.length_map]; omega)
        rw [full] at gd
        refine ⟨D, _, rfl, SqL.of gd, _, rfl, ?_⟩
        by_cases e1 : (ds.map (inR 0 ((n : Int) - 1))).all id = true
        · rw [e1]
          obtain ⟨ns, rfl, inside⟩ := all_in e1
          have ex : xs = ns.map V.int := al.ints
          subst ex
          refine ⟨.ref a, rfl, a, ns, rfl, SqT.of (sm _ _ ha), fun out t perm rise nt => ?_⟩
          have s2 : Same G (upd G t (.lst (out.map V.int))) := same_new nt
          refine ⟨.int n, rfl, n, rfl, RgOk.of_le (by omega) (by omega) (by omega) (by omega), fun l nl => ?_⟩
          rw [rgV_R]
          have s3 : Same (upd G t (.lst (out.map V.int))) (upd (upd G t (.lst (out.map V.int))) l (.lst ((R n).map V.int))) := same_new nl
          refine ⟨_, _, .lst (SqL.of (s3 _ _ upd_same)) (dp_ints K _ out), .lst (SqL.of upd_same) (dp_ints K _ (R n)), shaped_ints out, shaped_ints (R n), ?_⟩
          refine q _ _ ((sm.trans s2).trans s3) ?_
          rw [IsP.iff, ← probe_by_sort perm rise]
          show PyData.eqv (.list (out.map PyData.int)) (.list ((R n).map PyData.int)) = true ↔ _
          simp only [PyData.eqv, eqv_ints, decide_eq_true_eq]
        · rw [Bool.not_eq_true] at e1
          rw [e1]
          refine q false G sm ⟨(fun z => by cases z), fun z => ?_⟩
          rw [z.all.1] at e1
          cases e1
    · rw [Bool.not_eq_true] at isTu
      rw [isTu]
      refine q false H (Same.refl H) ⟨(fun z => by cases z), ?_⟩
      rintro ⟨ns, rfl, _⟩
      cases isTu
end
end SL

namespace SL
open PySem PySem.Spec PyProof.Rows L2
/-! ### how long data and its text are -/
mutual
def fw : PyData → Bool
  | .tuple xs => decide (xs.length ≤ 200) && fwAll xs
  | .list xs => decide (xs.length ≤ 200) && fwAll xs
  | _ => true
def fwAll : List PyData → Bool
  | [] => true
  | x :: xs => fw x && fwAll xs
end
structure El (k c : Nat) (d : PyData) : Prop where
  sh : d.showable = true
  dp : d.depth ≤ k
  ln : d.shown.length ≤ c
  fw : fw d = true
theorem El.mono {k c k' c' : Nat} {d : PyData} (h : El k c d) (hk : k ≤ k') (hc : c ≤ c') : El k' c' d := ⟨h.sh, Nat.le_trans h.dp hk, Nat.le_trans h.ln hc, h.fw⟩
theorem fw_mem : ∀ {ds : List PyData}, fwAll ds = true → ∀ x ∈ ds, fw x = true
  | [], _, x, hx => by cases hx
  | d :: ds, h, x, hx => by
    simp only [fwAll, Bool.and_eq_true] at h
    rcases List.mem_cons.mp hx with z | z
    · rw [z]
      exact h.1
    · exact fw_mem h.2 x z
theorem fw_tuple {ds : List PyData} (h : fw (.tuple ds) = true) : ds.length ≤ 200 ∧ ∀ x ∈ ds, fw x = true := by
  simp only [fw, Bool.and_eq_true, decide_eq_true_eq] at h
  exact ⟨h.1, fw_mem h.2⟩
theorem el_all {k c : Nat} : ∀ {ds : List PyData}, (∀ x ∈ ds, El k c x) → PyData.showableAll ds = true ∧ PyData.depthAll ds ≤ k ∧ ((PyData.shownAll ds).map (·.length)).sum ≤ ds.length * c ∧ (PyData.shownAll ds).length = ds.length ∧ fwAll ds = true
  | [], _ => by simp [PyData.showableAll, PyData.depthAll, PyData.shownAll, fwAll]
  | d :: ds, h => by
    obtain ⟨a, b, e, f, g⟩ := el_all (ds := ds) fun x hx => h x (List.mem_cons_of_mem _ hx)
    have h1 := h d List.mem_cons_self
    refine ⟨?_, ?_, ?_, ?_, ?_⟩
    · simp only [PyData.showableAll, h1.sh, a, Bool.and_self]
    · simp only [PyData.depthAll]
      have := h1.dp
      omega
    · simp only [PyData.shownAll, List.map_cons, List.sum_cons, List.length_cons]
      have := h1.ln
      rw [Nat.succ_mul]
      omega
    · simp only [PyData.shownAll, List.length_cons, f]
    · simp only [fwAll, h1.fw, g, Bool.and_self]
theorem el_tuple {k c m : Nat} {ds : List PyData} (h : ∀ x ∈ ds, El k c x) (l : ds.length ≤ m) (lm : m ≤ 200) : El (k + 1) (m * (c + 2) + 3) (.tuple ds) := by
  obtain ⟨a, b, e, f, g⟩ := el_all h
  have z := tupleText_len_le (PyData.shownAll ds)
  have z1 : ds.length * c ≤ m * c := Nat.mul_le_mul_right c l
  refine ⟨by simp only [PyData.showable]; exact a, by simp only [PyData.depth]; omega, ?_, ?_⟩
  · simp only [PyData.shown]
    rw [f] at z
    rw [Nat.mul_add]
    omega
  · simp only [SL.fw, g, Bool.and_true]
    exact decide_eq_true (by omega)
theorem el_list {k c m : Nat} {ds : List PyData} (h : ∀ x ∈ ds, El k c x) (l : ds.length ≤ m) (lm : m ≤ 200) : El (k + 1) (m * (c + 2) + 3) (.list ds) := by
  obtain ⟨a, b, e, f, g⟩ := el_all h
  have z := listText_len_le (PyData.shownAll ds)
  have z1 : ds.length * c ≤ m * c := Nat.mul_le_mul_right c l
  refine ⟨by simp only [PyData.showable]; exact a, by simp only [PyData.depth]; omega, ?_, ?_⟩
  · simp only [PyData.shown]
    rw [f] at z
    rw [Nat.mul_add]
    omega
  · simp only [SL.fw, g, Bool.and_true]
    exact decide_eq_true (by omega)
theorem el_none : El 0 20 .none := ⟨by simp [PyData.showable], by simp [PyData.depth], by decide +kernel, by simp [SL.fw]⟩
theorem el_bool (b : Bool) : El 0 20 (.bool b) := ⟨by simp [PyData.showable], by simp [PyData.depth], by cases b <;> decide +kernel, by simp [SL.fw]⟩
theorem el_int {i : Int} (h0 : -10 ≤ i) (h1 : i ≤ 200) : El 0 20 (.int i) := by
  refine ⟨?_, by simp [PyData.depth], ?_, by simp [SL.fw]⟩
  · simp only [PyData.showable]
    refine decide_eq_true ?_
    have z : i.natAbs ≤ 200 := by omega
    have y : i.natAbs.log2 ≤ i.natAbs := Nat.log2_le_self _
    omega
  · have all : ((List.range 211).all fun n => decide ((PyData.shown (.int ((n : Int) - 10))).length ≤ 20)) = true := by decide +kernel
    have z := List.all_eq_true.mp all (i + 10).toNat (List.mem_range.mpr (by omega))
    have e : (((i + 10).toNat : Nat) : Int) - 10 = i := by omega
    rw [e] at z
    exact of_decide_eq_true z
theorem el_digits {i : Int} (h0 : 0 ≤ i) (h1 : i ≤ 100) : El 0 20 (.str (toString i)) := by
  refine ⟨by simp [PyData.showable], by simp [PyData.depth], ?_, by simp [SL.fw]⟩
  have all : ((List.range 101).all fun n => decide ((PyData.shown (.str (toString ((n : Int))))).length ≤ 20)) = true := by decide +kernel
  have z := List.all_eq_true.mp all i.toNat (List.mem_range.mpr (by omega))
  have e : ((i.toNat : Nat) : Int) = i := by omega
  rw [e] at z
  exact of_decide_eq_true z
theorem el_text {x : Str} (h : (PyData.shown (.str x)).length ≤ 20) : El 0 20 (.str x) := ⟨by simp [PyData.showable], by simp [PyData.depth], h, by simp [SL.fw]⟩
/-- what repr, and the defs that judge any value, may be asked of -/
def Good (d : PyData) : Prop := El 20 10000000 d
/-- a value that is such data -/
def Nd (p : Addr) (k c : Nat) (H : Hp) (v : V) : Prop := ∃ d, Dt p H v d ∧ El k c d
theorem Nd.keep {p : Addr} {k c : Nat} {H H' : Hp} {v : V} (h : Nd p k c H v) (t : Dk p H H') : Nd p k c H' v := by
  obtain ⟨d, a, b⟩ := h
  exact ⟨d, a.keep t, b⟩
theorem Nd.mono {p : Addr} {k c k' c' : Nat} {H : Hp} {v : V} (h : Nd p k c H v) (hk : k ≤ k') (hc : c ≤ c') : Nd p k' c' H v := by
  obtain ⟨d, a, b⟩ := h
  exact ⟨d, a, b.mono hk hc⟩
/-- each item is such data -/
def Ek (p : Addr) (k c : Nat) (H : Hp) (xs : List V) : Prop := ∀ y ∈ xs, Nd p k c H y
theorem Ek.sub {p : Addr} {k c : Nat} {H : Hp} {xs ys : List V} (h : Ek p k c H xs) (s : ys.Sublist xs) : Ek p k c H ys := fun y hy => h y (s.subset hy)
theorem Ek.keep {p : Addr} {k c : Nat} {H H' : Hp} {xs : List V} (h : Ek p k c H xs) (t : Dk p H H') : Ek p k c H' xs := fun y hy => (h y hy).keep t
theorem Ek.app {p : Addr} {k c : Nat} {H : Hp} {xs ys : List V} (h : Ek p k c H xs) (g : Ek p k c H ys) : Ek p k c H (xs ++ ys) := fun y hy => by
  rcases List.mem_append.mp hy with z | z
  · exact h y z
  · exact g y z
theorem Ek.mono {p : Addr} {k c k' c' : Nat} {H : Hp} {xs : List V} (h : Ek p k c H xs) (hk : k ≤ k') (hc : c ≤ c') : Ek p k' c' H xs := fun y hy => (h y hy).mono hk hc
theorem Ek.one {p : Addr} {k c : Nat} {H : Hp} {v : V} (h : Nd p k c H v) : Ek p k c H [v] := fun y hy => by
  rw [List.mem_singleton.mp hy]
  exact h
theorem Ek.nil {p : Addr} {k c : Nat} {H : Hp} : Ek p k c H [] := fun y hy => by cases hy
theorem Ek.data {p : Addr} {k c : Nat} {H : Hp} : ∀ {xs : List V}, Ek p k c H xs → ∃ ds, DtAll p H xs ds ∧ ∀ d ∈ ds, El k c d
  | [], _ => ⟨[], .nil, fun d hd => by cases hd⟩
  | v :: xs, h => by
    obtain ⟨d, a, b⟩ := h v List.mem_cons_self
    obtain ⟨ds, e, f⟩ := Ek.data (xs := xs) fun y hy => h y (List.mem_cons_of_mem _ hy)
    refine ⟨d :: ds, .cons a e, fun x hx => ?_⟩
    rcases List.mem_cons.mp hx with z | z
    · rw [z]
      exact b
    · exact f x z
theorem Ek.tuple {p : Addr} {k c m : Nat} {H : Hp} {xs : List V} {t : Addr} (h : Ek p k c H xs) (ht : H t = some (.tup xs)) (l : xs.length ≤ m) (lm : m ≤ 200) : Nd p (k + 1) (m * (c + 2) + 3) H (.ref t) := by
  obtain ⟨ds, e, f⟩ := h.data
  exact ⟨.tuple ds, .tup ht e, el_tuple f (by rw [← e.len]; exact l) lm⟩
theorem Ek.list {p : Addr} {k c m : Nat} {H : Hp} {xs : List V} {t : Addr} (h : Ek p k c H xs) (ht : H t = some (.lst xs)) (n : t ≠ p) (l : xs.length ≤ m) (lm : m ≤ 200) : Nd p (k + 1) (m * (c + 2) + 3) H (.ref t) := by
  obtain ⟨ds, e, f⟩ := h.data
  exact ⟨.list ds, .lst ht n e, el_list f (by rw [← e.len]; exact l) lm⟩
theorem nd_int {p : Addr} {H : Hp} {i : Int} (h0 : -10 ≤ i) (h1 : i ≤ 200) : Nd p 0 20 H (.int i) := ⟨.int i, .int i, el_int h0 h1⟩
theorem nd_bool {p : Addr} {H : Hp} (b : Bool) : Nd p 0 20 H (.bl b) := ⟨.bool b, .bl b, el_bool b⟩
theorem nd_none {p : Addr} {H : Hp} : Nd p 0 20 H .non := ⟨.none, .non, el_none⟩
theorem nd_text {p : Addr} {H : Hp} {x : Str} (h : (PyData.shown (.str x)).length ≤ 20) : Nd p 0 20 H (.str x) := ⟨.str x, .str x, el_text h⟩
theorem ek_ints {p : Addr} {H : Hp} {ns : List Int} (h : ∀ x ∈ ns, 0 ≤ x ∧ x ≤ 100) : Ek p 0 20 H (ns.map V.int) := fun y hy => by
  obtain ⟨x, hx, rfl⟩ := List.mem_map.mp hy
  have := h x hx
  exact nd_int (by omega) (by omega)
/-! ### nested tuples of small numbers -/
inductive Nt (H : Hp) : Nat → V → Prop
  | int {n : Nat} {i : Int} : 0 ≤ i → i ≤ 100 → Nt H n (.int i)
  | tup {n : Nat} {t : Addr} {xs : List V} : H t = some (.tup xs) → xs.length ≤ 16 → (∀ x ∈ xs, Nt H n x) → Nt H (n + 1) (.ref t)
theorem Nt.keep {H H' : Hp} (k : Tk H H') {n : Nat} {v : V} (h : Nt H n v) : Nt H' n v := by
  induction h with
  | int a b => exact .int a b
  | tup a b _ ih => exact .tup (k _ _ a) b ih
/-- lengths of their texts; of what is made of them -/
def cb : Nat → Nat
  | 0 => 20
  | n + 1 => 16 * (cb n + 2) + 3
def bb : Nat → Nat
  | 0 => 100
  | n + 1 => 34 * (bb n + 2) + 30
theorem cb_bb : ∀ n, cb n ≤ bb n
  | 0 => by decide
  | n + 1 => by
    have := cb_bb n
    show 16 * (cb n + 2) + 3 ≤ 34 * (bb n + 2) + 30
    omega
theorem cb_20 : ∀ n, 20 ≤ cb n
  | 0 => by decide
  | n + 1 => by
    have := cb_20 n
    show 20 ≤ 16 * (cb n + 2) + 3
    omega
theorem Nt.nd {p : Addr} {H : Hp} {n : Nat} {v : V} (h : Nt H n v) : Nd p n (cb n) H v := by
  induction h with
  | int a b => exact (nd_int (by omega) (by omega)).mono (by omega) (cb_20 _)
  | tup a b _ ih => exact Ek.tuple (m := 16) ih a b (by omega)
/-! ### == of such tuples is known -/
theorem Nt.full {p : Addr} {H : Hp} {n : Nat} {v : V} (h : Nt H n v) : ∃ d, Dt p H v d ∧ d.depth ≤ n ∧ d.canLay0 = true := by
  induction h with
  | int a b => exact ⟨_, .int _, by simp [PyData.depth], by simp [PyData.canLay0]⟩
  | @tup n t xs a b _ ih =>
    have all : ∀ ys : List V, (∀ x ∈ ys, ∃ d, Dt p H x d ∧ d.depth ≤ n ∧ d.canLay0 = true) → ∃ ds, DtAll p H ys ds ∧ PyData.depthAll ds ≤ n ∧ PyData.canLayAll0 ds = true := by
      intro ys
      induction ys with
      | nil => intro _; exact ⟨[], .nil, by simp [PyData.depthAll], by simp [PyData.canLayAll0]⟩
      | cons y ys ih2 =>
        intro hy
        obtain ⟨d, d1, d2, d3⟩ := hy y List.mem_cons_self
        obtain ⟨ds, e1, e2, e3⟩ := ih2 fun x hx => hy x (List.mem_cons_of_mem _ hx)
        refine ⟨d :: ds, .cons d1 e1, by simp only [PyData.depthAll]; omega, by simp [PyData.canLayAll0, d3, e3]⟩
    obtain ⟨ds, e1, e2, e3⟩ := all xs ih
    refine ⟨.tuple ds, .tup a e1, by simp only [PyData.depth]; omega, by simp only [PyData.canLay0]; exact e3⟩
theorem shaped_of {d : PyData} (h : d.canLay0 = true) (l : d.depth ≤ 64) : SeqAt.shaped d = true := by
  show (d.canLay0 && decide (d.depth ≤ 64)) = true
  rw [h, decide_eq_true l]
  rfl
/-! ### slices and sums of tracked tuples -/
theorem cut_sub (xs : List V) (lo hi : Option Int) : (cutV xs lo hi).Sublist xs := (List.take_sublist _ _).trans (List.drop_sublist _ _)
def rSlW : V → Option Int → Option Int → Hp → VK → Prop := fun x lo hi H Q => ∃ a xs, x = .ref a ∧ H a = some (.tup xs) ∧ ∀ (H' : Hp) (t : Addr) (ys : List V), Same H H' → H' t = some (.tup ys) → ys.Sublist xs → ys = cutV xs lo hi ∨ ys = xs → Q (.ref t) H'
theorem sl_tupW {X : Cx} : SlR X rSlW := by
  intro pins s σ H x v vl vu lo hi sl Q I rx hs pl pu h
  obtain ⟨a, xs, rfl, ha, q⟩ := h
  refine sl_tupA pins s σ H _ v vl vu lo hi sl Q I rx hs pl pu ⟨a, xs, rfl, SqT.of ha, fun _ => ?_, fun _ p np => ?_⟩
  · exact q H a xs (Same.refl H) ha (List.Sublist.refl _) (.inr rfl)
  · exact q _ p _ (same_new np) upd_same (cut_sub xs lo hi) (.inl rfl)
def rCatW : R2 := fun x y H Q => ∃ a b xs ys, x = .ref a ∧ y = .ref b ∧ H a = some (.tup xs) ∧ H b = some (.tup ys) ∧ xs.length + ys.length ≤ 1000 ∧ ∀ (H' : Hp) (t : Addr), Same H H' → H' t = some (.tup (xs ++ ys)) → Q (.ref t) H'
theorem op_catW {X : Cx} : OpR X (binaryOp .Add) rCatW := by
  intro pins s σ H x y v u Q I rx ry h
  obtain ⟨a, b, xs, ys, rfl, rfl, ha, hb, l, q⟩ := h
  refine op_catA pins s σ H _ _ v u Q I rx ry ⟨a, b, xs, ys, rfl, rfl, SqT.of ha, SqT.of hb, Nat.le_of_lt (small1000 l), fun e => ?_, fun _ e => ?_, fun _ _ p np => ?_⟩
  · subst e
    exact q H b (Same.refl H) hb
  · subst e
    exact q H a (Same.refl H) (by rw [List.append_nil]; exact ha)
  · exact q _ p (same_new np) upd_same
end SL

namespace SL
open PySem PySem.Spec PyProof.Rows L2
theorem scOdd : FnScope ["_law_pot_here", "_law_part", "_law_some", "_law_changed"] ["_law_pot_here", "_law_part"] (defScope sOdd) := ⟨rfl, rfl, rfl, by decide +kernel, rfl, by decide +kernel, by decide +kernel⟩
theorem flat2 (xs : List V) : (List.replicate (2 : Int).toNat xs).flatten = xs ++ xs := by
  show (List.replicate 2 xs).flatten = xs ++ xs
  simp [List.replicate]
theorem pot_ne {H : Hp} {p t : Addr} {n : Nat} (hp : Pot H p n) (h : H t = none) : t ≠ p := fun e => by
  obtain ⟨xs, hx⟩ := hp.lst
  rw [e, hx] at h
  cases h
section
variable {P : Program} {w : World} {K : PySem.W.Frag} {mg : Str → Option Value} {base : Heap}
def spOdd : Sp := fun vs H Q _ => ∃ (p : Addr) (v : V) (n k c : Nat), vs = [.ref p, v] ∧ Pot H p (n + 1) ∧
  ((∃ i : Int, v = .int i ∧ 0 ≤ i ∧ i ≤ 100) ∨ (∃ t xs, v = .ref t ∧ H t = some (.tup xs) ∧ Ek p k c H xs ∧ xs.length ≤ 16)) ∧ 20 ≤ c ∧
  ∀ (H' : Hp) (x : V), Kp p H H' → Pot H' p n → Nd p (k + 2) (34 * (c + 2) + 30) H' x → ((∃ i : Int, v = .int i) → Nd p 1 100 H' x) → Q x H'
theorem ok_odd {f fP fT : Addr} {fd fdP fdT : FuncData} {k : Nat} (F : Fun K "_law_odd" "_law_odd" sOdd f fd)
    (FP : Fun K "_law_pick" "_law_pick" sPick fP fdP) (bP : Binds K fdP ["_law_pot_here", "_law_some"] []) (gP : mg "_law_pick" = some (.ref fP))
    (FT : Fun K "_law_take" "_law_take" sTake fT fdT) (bT : Binds K fdT ["_law_pot_here", "_law_size"] []) (gT : mg "_law_take" = some (.ref fT))
    (mi : mg "isinstance" = none) (mn : mg "int" = none) (mt : mg "tuple" = none) (mli : mg "list" = none) (mst : mg "str" = none) (ml : mg "len" = none) :
    FnOk P w K mg base CX0 (k + 3) f fd ["_law_pot_here", "_law_part"] spOdd := by
  have GP : FnOk P w K mg base CX0 (k + 2) fP fdP ["_law_pot_here", "_law_some"] spPick := ok_pick FP FT bT gT ml
  refine F.ok scOdd (fun vs H Q E h => ?_) (fun cdv A outer s H vs Q E hr h => ?_)
  · obtain ⟨p, v, n, k, c, rfl, _⟩ := h
    rfl
  · obtain ⟨p, v, n, kk, c, rfl, hp, part, c0, q⟩ := h
    refine ⟨_, pss_cons (ps_set (i := 2) scOdd.nd rfl (.inl rfl) (pe_lst (pa_cons pe_non (pa_cons pe_bl (pa_cons pe_bl (pa_cons pe_int (pa_cons pe_int (pa_cons (pe_un un_neg pe_int) (pa_cons pe_int (pa_cons pe_int
          (pa_cons pe_str (pa_cons pe_str (pa_cons (pe_tup pa_nil) (pa_cons (pe_lst pa_nil) (pa_cons pe_dnewK (pa_cons (pe_tup (pa_cons pe_int pa_nil)) (pa_cons (pe_tup (pa_cons pe_int (pa_cons pe_int pa_nil)))
          (pa_cons (pe_tup (pa_cons pe_int (pa_cons pe_int pa_nil))) (pa_cons (pe_tup (pa_cons (pe_tup pa_nil) (pa_cons (pe_tup pa_nil) pa_nil))) pa_nil)))))))))))))))))))
      (pss_cons (ps_if (pt_val (pe_callB call_isi (by rfl) mi (by decide +kernel) (pa_cons (pv 1) (pa_cons (pe_bltn (v := .ty "tuple") (by rfl) mt (by decide +kernel) rfl) pa_nil))))
        (pss_cons (ps_set (i := 3) scOdd.nd rfl (.inl rfl) (pe_lst (pa_cons (pe_callTy call_list_of (by rfl) mli (by decide +kernel) (pa_cons (pv 1) pa_nil))
            (pa_cons (pe_slice sl_tupW (pv 1) po_none (po_some (pe_un un_neg pe_int))) (pa_cons (pe_slice sl_tupW (pv 1) (po_some pe_int) po_none)
            (pa_cons (pe_op op_catW (pv 1) (pe_slice sl_tupW (pv 1) (po_some (pe_un un_neg pe_int)) po_none)) (pa_cons (pe_revT (pv 1)) (pa_cons (pe_tup (pa_cons (pv 1) pa_nil))
            (pa_cons (pe_op op_catW (pv 1) (pe_tup (pa_cons pe_int pa_nil))) pa_nil)))))))))
          (pss_one (ps_set (i := 2) scOdd.nd rfl (.inl rfl) (pe_op op_cat (pe_slice sl_list (pv 2) po_none (po_some pe_int)) (pe_op op_rep (pv 3) pe_int)))))
        (pss_one (ps_if (pt_val (pe_callB call_isi (by rfl) mi (by decide +kernel) (pa_cons (pv 1) (pa_cons (pe_bltn (v := .ty "int") (by rfl) mn (by decide +kernel) rfl) pa_nil))))
          (pss_one (ps_set (i := 2) scOdd.nd rfl (.inl rfl) (pe_op op_cat (pe_slice sl_list (pv 2) po_none (po_some pe_int)) (pe_op op_rep (pe_lst (pa_cons (pe_op op_add (pv 1) pe_int) (pa_cons (pe_op op_sub (pv 1) pe_int)
            (pa_cons (pe_callTy call_str_int (by rfl) mst (by decide +kernel) (pa_cons (pv 1) pa_nil)) (pa_cons (pe_cmpR op_eq (pv 1) pe_int (nomark _)) (pa_cons (pe_tup (pa_cons (pv 1) pa_nil)) (pa_cons (pe_op op_add (pv 1) pe_int) pa_nil))))))) pe_int)))) pss_nil)))
      (pss_one (ps_ret (pe_call GP hr (by rfl) gP FP.kp bP .nil pass0 (pa_cons (pv 0) (pa_cons (pv 2) pa_nil)))))), ?_⟩
    -- the first list
    refine ⟨1, rfl, Nat.zero_le _, fun a1 n1 => ?_⟩
    refine ⟨Nat.zero_le _, fun a2 n2 a3 n3 => ?_⟩
    refine ⟨Nat.le_of_lt (small1000 (by show 1 ≤ 1000; decide)), fun a4 n4 => ?_⟩
    refine ⟨Nat.le_of_lt (small1000 (by show 2 ≤ 1000; decide)), fun a5 n5 => ?_⟩
    refine ⟨Nat.le_of_lt (small1000 (by show 2 ≤ 1000; decide)), fun a6 n6 => ?_⟩
    refine ⟨Nat.zero_le _, fun a7 n7 => ?_⟩
    refine ⟨Nat.zero_le _, fun a8 n8 => ?_⟩
    refine ⟨Nat.le_of_lt (small1000 (by show 2 ≤ 1000; decide)), fun a9 n9 => ?_⟩
    refine ⟨Nat.le_of_lt (small1000 (by show 17 ≤ 1000; decide)), fun l nl => ?_⟩
    have sm9 : Same H ((upd (upd (upd (upd (upd (upd (upd (upd (upd H a1 (.tup [])) a2 (.lst [])) a3 (.dK [])) a4 (.tup [.int 0])) a5 (.tup [.int 0, .int 1])) a6 (.tup [.int 1, .int 0])) a7 (.tup [])) a8 (.tup [])) a9 (.tup [.ref a7, .ref a8]))) := ((((((((same_new n1).trans (same_new n2)).trans (same_new n3)).trans (same_new n4)).trans (same_new n5)).trans (same_new n6)).trans (same_new n7)).trans (same_new n8)).trans (same_new n9)
    have sm : Same H (upd (upd (upd (upd (upd (upd (upd (upd (upd (upd H a1 (.tup [])) a2 (.lst [])) a3 (.dK [])) a4 (.tup [.int 0])) a5 (.tup [.int 0, .int 1])) a6 (.tup [.int 1, .int 0])) a7 (.tup [])) a8 (.tup [])) a9 (.tup [.ref a7, .ref a8])) l (.lst [.non, .bl true, .bl false, .int 0, .int 1, .int (-1), .int 15, .int 16, .str "", .str "a", .ref a1, .ref a2, .ref a3, .ref a4, .ref a5, .ref a6, .ref a9])) := sm9.trans (same_new nl)
    have hl : (upd (upd (upd (upd (upd (upd (upd (upd (upd (upd H a1 (.tup [])) a2 (.lst [])) a3 (.dK [])) a4 (.tup [.int 0])) a5 (.tup [.int 0, .int 1])) a6 (.tup [.int 1, .int 0])) a7 (.tup [])) a8 (.tup [])) a9 (.tup [.ref a7, .ref a8])) l (.lst [.non, .bl true, .bl false, .int 0, .int 1, .int (-1), .int 15, .int 16, .str "", .str "a", .ref a1, .ref a2, .ref a3, .ref a4, .ref a5, .ref a6, .ref a9])) l = some (.lst [.non, .bl true, .bl false, .int 0, .int 1, .int (-1), .int 15, .int 16, .str "", .str "a", .ref a1, .ref a2, .ref a3, .ref a4, .ref a5, .ref a6, .ref a9]) := upd_same
    have nlp : l ≠ p := pot_ne hp (sm9.free nl)
    generalize upd (upd (upd (upd (upd (upd (upd (upd (upd (upd H a1 (.tup [])) a2 (.lst [])) a3 (.dK [])) a4 (.tup [.int 0])) a5 (.tup [.int 0, .int 1])) a6 (.tup [.int 1, .int 0])) a7 (.tup [])) a8 (.tup [])) a9 (.tup [.ref a7, .ref a8])) l (.lst [.non, .bl true, .bl false, .int 0, .int 1, .int (-1), .int 15, .int 16, .str "", .str "a", .ref a1, .ref a2, .ref a3, .ref a4, .ref a5, .ref a6, .ref a9]) = G at sm hl ⊢
    have hpG : Pot G p (n + 1) := hp.same sm
    clear sm9
    rcases part with ⟨i, rfl, i0, i1⟩ | ⟨t, xs, rfl, ht, ek, few⟩
    · -- a number
      refine ⟨.int i, rfl, .int i, .ty "tuple", _, _, _, rfl, .ty "tuple", (Dt.int (p := p) i).ty, kit_ty (kit_tuple (.int i)), _, rfl, ?_⟩
      refine ⟨.int i, rfl, .int i, .ty "int", _, _, _, rfl, .ty "int", (Dt.int (p := p) i).ty, kit_ty (kit_int (.int i)), _, rfl, ?_⟩
      refine ⟨.ref l, rfl, 9, rfl, l, _, rfl, SqL.of hl, fun sl nsl => ?_⟩
      have e9 : cutV [.non, .bl true, .bl false, .int 0, .int 1, .int (-1), .int 15, .int 16, .str "", .str "a", .ref a1, .ref a2, .ref a3, .ref a4, .ref a5, .ref a6, .ref a9] none (some 9) = [.non, .bl true, .bl false, .int 0, .int 1, .int (-1), .int 15, .int 16, .str ""] := rfl
      rw [e9]
      refine ⟨.int i, rfl, i, 1, rfl, rfl, .int i, rfl, i, 1, rfl, rfl, .int i, rfl, i, rfl, ?_, .int i, rfl, rfl, .int i, rfl, Nat.le_of_lt (small1000 (by show 1 ≤ 1000; decide)), fun tt ntt => ?_⟩
      · have y : i.natAbs.log2 ≤ i.natAbs := Nat.log2_le_self _
        omega
      refine ⟨.int i, rfl, i, 16, rfl, rfl, Nat.le_of_lt (small1000 (by show 6 ≤ 1000; decide)), fun m nm => ?_⟩
      refine ⟨m, 2, _, rfl, rfl, upd_same, by decide, by decide, ?_, fun r nr => ?_⟩
      · show 6 * 2 ≤ sizeLine
        decide
      rw [flat2]
      have s1 := same_new (o := .lst [.non, .bl true, .bl false, .int 0, .int 1, .int (-1), .int 15, .int 16, .str ""]) nsl
      have s2 := same_new (o := .tup [.int i]) ntt
      have s3 := same_new (o := .lst [.int (i + 1), .int (i - 1), .str (toString i), .bl (decide (V.int i = V.int 1)), .ref tt, .int (i + 16)]) nm
      have s4 := same_new (o := .lst ([.int (i + 1), .int (i - 1), .str (toString i), .bl (decide (V.int i = V.int 1)), .ref tt, .int (i + 16)] ++ [.int (i + 1), .int (i - 1), .str (toString i), .bl (decide (V.int i = V.int 1)), .ref tt, .int (i + 16)])) nr
      refine ⟨sl, r, _, _, rfl, rfl, s4 _ _ (s3 _ _ (s2 _ _ upd_same)), upd_same, ?_, fun u nu => ?_⟩
      · show 9 + 12 ≤ sizeLine
        decide
      have s5 := same_new (o := .lst ([.non, .bl true, .bl false, .int 0, .int 1, .int (-1), .int 15, .int 16, .str ""] ++ ([.int (i + 1), .int (i - 1), .str (toString i), .bl (decide (V.int i = V.int 1)), .ref tt, .int (i + 16)] ++ [.int (i + 1), .int (i - 1), .str (toString i), .bl (decide (V.int i = V.int 1)), .ref tt, .int (i + 16)]))) nu
      have s15 := (((s1.trans s2).trans s3).trans s4).trans s5
      have nup : u ≠ p := pot_ne (hpG.same (((s1.trans s2).trans s3).trans s4)) nu
      have ntp : tt ≠ p := pot_ne (hpG.same s1) ntt
      refine ⟨.ref p, rfl, .ref u, rfl, p, u, _, n, rfl, hpG.same s15, upd_same, nup, by show 0 < 21; decide, by show 21 ≤ 1000; decide, fun H' j x kp pot' hx => ?_⟩
      have htt : H' tt = some (.tup [.int i]) := kp _ _ ntp (s5 _ _ (s4 _ _ (s3 _ _ upd_same)))
      have kpH : Kp p H H' := (Kp.same (sm.trans s15)).trans kp
      have mem := List.mem_of_getElem? hx
      have fine : Nd p 1 100 H' x := by
        have flat : Nd p 0 20 H' x → Nd p 1 100 H' x := fun h => h.mono (by omega) (by omega)
        simp only [List.mem_append, List.mem_cons, List.not_mem_nil, or_false] at mem
        have six : (x = .int (i + 1) ∨ x = .int (i - 1) ∨ x = .str (toString i) ∨ x = .bl (decide (V.int i = V.int 1)) ∨ x = .ref tt ∨ x = .int (i + 16)) → Nd p 1 100 H' x := by
          rintro (rfl | rfl | rfl | rfl | rfl | rfl)
          · exact flat (nd_int (by omega) (by omega))
          · exact flat (nd_int (by omega) (by omega))
          · exact flat ⟨_, .str _, el_digits i0 i1⟩
          · exact flat (nd_bool _)
          · exact (Ek.tuple (m := 1) (Ek.one (nd_int (by omega) (by omega))) htt (by simp) (by omega)).mono (by omega) (by omega)
          · exact flat (nd_int (by omega) (by omega))
        rcases mem with (rfl | rfl | rfl | rfl | rfl | rfl | rfl | rfl | rfl) | (h6 | h6)
        · exact flat nd_none
        · exact flat (nd_bool _)
        · exact flat (nd_bool _)
        · exact flat (nd_int (by omega) (by omega))
        · exact flat (nd_int (by omega) (by omega))
        · exact flat (nd_int (by omega) (by omega))
        · exact flat (nd_int (by omega) (by omega))
        · exact flat (nd_int (by omega) (by omega))
        · exact flat (nd_text (by decide +kernel))
        · exact six h6
        · exact six h6
      exact q H' x kpH pot' (fine.mono (by omega) (by omega)) (fun _ => fine)
    · -- a tuple
      have ht0 := sm _ _ ht
      refine ⟨.ref t, rfl, .ref t, .ty "tuple", _, _, true, rfl, .ty "tuple", .base (.tup ht0), kit_ty (by decide +kernel), _, rfl, ?_⟩
      refine ⟨.ref t, rfl, t, xs, rfl, .inr (SqT.of ht0), fun b1 m1 => ?_⟩
      have s1 := same_new (o := .lst xs) m1
      refine ⟨.ref t, rfl, 1, rfl, -1, rfl, t, xs, rfl, s1 _ _ ht0, fun G2 b2 ys2 s2 h2 sub2 _ => ?_⟩
      refine ⟨.ref t, rfl, 1, rfl, t, xs, rfl, s2 _ _ (s1 _ _ ht0), fun G3 b3 ys3 s3 h3 sub3 _ => ?_⟩
      refine ⟨.ref t, rfl, .ref t, rfl, 1, rfl, -1, rfl, t, xs, rfl, s3 _ _ (s2 _ _ (s1 _ _ ht0)), fun G4 b4 ys4 s4 h4 sub4 _ => ?_⟩
      have l4 := sub4.length_le
      refine ⟨t, b4, xs, ys4, rfl, rfl, s4 _ _ (s3 _ _ (s2 _ _ (s1 _ _ ht0))), h4, by omega, fun G5 b5 s5 h5 => ?_⟩
      have ht5 := s5 _ _ (s4 _ _ (s3 _ _ (s2 _ _ (s1 _ _ ht0))))
      refine ⟨.ref t, rfl, t, xs, rfl, SqT.of ht5, fun b6 m6 => ?_⟩
      have s6 := same_new (o := .tup xs.reverse) m6
      refine ⟨.ref t, rfl, Nat.le_of_lt (small1000 (by show 1 ≤ 1000; decide)), fun b7 m7 => ?_⟩
      have s7 := same_new (o := .tup [.ref t]) m7
      refine ⟨.ref t, rfl, Nat.le_of_lt (small1000 (by show 1 ≤ 1000; decide)), fun b8 m8 => ?_⟩
      have s8 := same_new (o := .tup [.int 0]) m8
      refine ⟨t, b8, xs, [.int 0], rfl, rfl, s8 _ _ (s7 _ _ (s6 _ _ ht5)), upd_same, by show xs.length + 1 ≤ 1000; omega, fun G9 b9 s9 h9 => ?_⟩
      refine ⟨Nat.le_of_lt (small1000 (by show 7 ≤ 1000; decide)), fun ch mch => ?_⟩
      have s10 := same_new (o := .lst [.ref b1, .ref b2, .ref b3, .ref b5, .ref b6, .ref b7, .ref b9]) mch
      have s19 := (((((((s1.trans s2).trans s3).trans s4).trans s5).trans s6).trans s7).trans s8).trans s9
      refine ⟨.ref l, rfl, 6, rfl, l, _, rfl, SqL.of (s10 _ _ (s19 _ _ hl)), fun sl nsl => ?_⟩
      have e6 : cutV [.non, .bl true, .bl false, .int 0, .int 1, .int (-1), .int 15, .int 16, .str "", .str "a", .ref a1, .ref a2, .ref a3, .ref a4, .ref a5, .ref a6, .ref a9] none (some 6) = [.non, .bl true, .bl false, .int 0, .int 1, .int (-1)] := rfl
      rw [e6]
      have s11 := same_new (o := .lst [.non, .bl true, .bl false, .int 0, .int 1, .int (-1)]) nsl
      refine ⟨.ref ch, rfl, ch, 2, _, rfl, rfl, s11 _ _ upd_same, by decide, by decide, ?_, fun r nr => ?_⟩
      · show 7 * 2 ≤ sizeLine
        decide
      rw [flat2]
      have s12 := same_new (o := .lst ([.ref b1, .ref b2, .ref b3, .ref b5, .ref b6, .ref b7, .ref b9] ++ [.ref b1, .ref b2, .ref b3, .ref b5, .ref b6, .ref b7, .ref b9])) nr
      refine ⟨sl, r, _, _, rfl, rfl, s12 _ _ upd_same, upd_same, ?_, fun u nu => ?_⟩
      · show 6 + 14 ≤ sizeLine
        decide
      have s13 := same_new (o := .lst ([.non, .bl true, .bl false, .int 0, .int 1, .int (-1)] ++ ([.ref b1, .ref b2, .ref b3, .ref b5, .ref b6, .ref b7, .ref b9] ++ [.ref b1, .ref b2, .ref b3, .ref b5, .ref b6, .ref b7, .ref b9]))) nu
      have s9d := ((s10.trans s11).trans s12).trans s13
      have nup : u ≠ p := pot_ne (hpG.same (s19.trans ((s10.trans s11).trans s12))) nu
      have nb1 : b1 ≠ p := pot_ne hpG m1
      refine ⟨.ref p, rfl, .ref u, rfl, p, u, _, n, rfl, hpG.same (s19.trans s9d), upd_same, nup, by show 0 < 20; decide, by show 20 ≤ 1000; decide, fun H' j x kp pot' hx => ?_⟩
      have kpH : Kp p H H' := (Kp.same (sm.trans (s19.trans s9d))).trans kp
      obtain ⟨px, hpx⟩ := (hpG.same (s19.trans s9d)).lst
      have dk9 : Dk p G9 H' := (Same.dk s9d).trans (kp.dk hpx)
      have tk9 : Tk G9 H' := dk9.1
      have dk : Dk p H H' := (Same.dk (sm.trans s19)).trans dk9
      have tk : Tk H H' := dk.1
      have ek' : Ek p kk c H' xs := ek.keep dk
      have tup : ∀ (b : Addr) (ys : List V), H' b = some (.tup ys) → Ek p kk c H' ys → ys.length ≤ 33 → Nd p (kk + 2) (34 * (c + 2) + 30) H' (.ref b) := by
        intro b ys hb he hlen
        exact (he.tuple hb hlen (by omega)).mono (by omega) (by omega)
      have h2' : H' b2 = some (.tup ys2) := tk9 _ _ (s9 _ _ (s8 _ _ (s7 _ _ (s6 _ _ (s5 _ _ (s4 _ _ (s3 _ _ h2)))))))
      have h3' : H' b3 = some (.tup ys3) := tk9 _ _ (s9 _ _ (s8 _ _ (s7 _ _ (s6 _ _ (s5 _ _ (s4 _ _ h3))))))
      have h5' : H' b5 = some (.tup (xs ++ ys4)) := tk9 _ _ (s9 _ _ (s8 _ _ (s7 _ _ (s6 _ _ h5))))
      have h6' : H' b6 = some (.tup xs.reverse) := tk9 _ _ (s9 _ _ (s8 _ _ (s7 _ _ upd_same)))
      have h7' : H' b7 = some (.tup [.ref t]) := tk9 _ _ (s9 _ _ (s8 _ _ upd_same))
      have h9' : H' b9 = some (.tup (xs ++ [.int 0])) := tk9 _ _ h9
      have h1' : H' b1 = some (.lst xs) := kp _ _ nb1 (s9d _ _ (s9 _ _ (s8 _ _ (s7 _ _ (s6 _ _ (s5 _ _ (s4 _ _ (s3 _ _ (s2 _ _ upd_same)))))))))
      have ht' : H' t = some (.tup xs) := tk _ _ ht
      have mem := List.mem_of_getElem? hx
      have flat : Nd p 0 20 H' x → Nd p (kk + 2) (34 * (c + 2) + 30) H' x := fun h => h.mono (by omega) (by omega)
      have fine : Nd p (kk + 2) (34 * (c + 2) + 30) H' x := by
        simp only [List.mem_append, List.mem_cons, List.not_mem_nil, or_false] at mem
        have seven : (x = .ref b1 ∨ x = .ref b2 ∨ x = .ref b3 ∨ x = .ref b5 ∨ x = .ref b6 ∨ x = .ref b7 ∨ x = .ref b9) → Nd p (kk + 2) (34 * (c + 2) + 30) H' x := by
          rintro (rfl | rfl | rfl | rfl | rfl | rfl | rfl)
          · exact (ek'.list h1' nb1 (show xs.length ≤ 33 by omega) (by omega)).mono (by omega) (by omega)
          · exact tup _ _ h2' (ek'.sub sub2) (by have := sub2.length_le; omega)
          · exact tup _ _ h3' (ek'.sub sub3) (by have := sub3.length_le; omega)
          · exact tup _ _ h5' (ek'.app (ek'.sub sub4)) (by rw [List.length_append]; omega)
          · exact tup _ _ h6' (fun y hy => ek' y (List.mem_reverse.mp hy)) (by rw [List.length_reverse]; omega)
          · exact (Ek.tuple (m := 1) (Ek.one (ek'.tuple ht' (show xs.length ≤ 33 by omega) (by omega))) h7' (by simp) (by omega)).mono (by omega) (by omega)
          · exact tup _ _ h9' (ek'.app (Ek.one ((nd_int (by omega) (by omega)).mono (by omega) c0))) (by rw [List.length_append]; simp; omega)
        rcases mem with (rfl | rfl | rfl | rfl | rfl | rfl) | (h6 | h6)
        · exact flat nd_none
        · exact flat (nd_bool _)
        · exact flat (nd_bool _)
        · exact flat (nd_int (by omega) (by omega))
        · exact flat (nd_int (by omega) (by omega))
        · exact flat (nd_int (by omega) (by omega))
        · exact seven h6
        · exact seven h6
      exact q H' x kpH pot' fine (fun ⟨_, z⟩ => by cases z)
end
end SL

namespace SL
open PySem PySem.Spec PyProof.Rows L2
theorem scBent : FnScope ["_law_pot_here", "_law_thing", "_law_depth", "_law_at"] ["_law_pot_here", "_law_thing", "_law_depth"] (defScope sBent) := ⟨rfl, rfl, rfl, by decide +kernel, rfl, by decide +kernel, by decide +kernel⟩
section
variable {P : Program} {w : World} {K : PySem.W.Frag} {mg : Str → Option Value} {base : Heap}
/-- of nested tuples of small numbers -/
def spBent (n : Nat) : Sp := fun vs H Q _ => ∃ (p : Addr) (v : V) (dep : Int) (m : Nat), vs = [.ref p, v, .int dep] ∧ Nt H n v ∧ Pot H p (m + 3 * n + 1) ∧
  ∀ (H' : Hp) (x : V), Kp p H H' → Pot H' p m → Nd p (n + 2) (bb n) H' x → Q x H'
structure BentK (K : PySem.W.Frag) (mg : Str → Option Value) : Prop where
  mi : mg "isinstance" = none
  mn : mg "int" = none
  mt : mg "tuple" = none
  mli : mg "list" = none
  mst : mg "str" = none
  ml : mg "len" = none
theorem ok_bent {f fO fP fT : Addr} {fd fdO fdP fdT : FuncData} {k : Nat} (F : Fun K "_law_bent" "_law_bent" sBent f fd) (bF : Binds K fd ["_law_pot_here", "_law_thing", "_law_depth"] []) (gF : mg "_law_bent" = some (.ref f)) (M : BentK K mg)
    (FO : Fun K "_law_odd" "_law_odd" sOdd fO fdO) (bO : Binds K fdO ["_law_pot_here", "_law_part"] []) (gO : mg "_law_odd" = some (.ref fO))
    (FP : Fun K "_law_pick" "_law_pick" sPick fP fdP) (bP : Binds K fdP ["_law_pot_here", "_law_some"] []) (gP : mg "_law_pick" = some (.ref fP))
    (FT : Fun K "_law_take" "_law_take" sTake fT fdT) (bT : Binds K fdT ["_law_pot_here", "_law_size"] []) (gT : mg "_law_take" = some (.ref fT)) :
    ∀ n : Nat, n ≤ 10 → FnOk P w K mg base CX0 (k + 4 + n) f fd ["_law_pot_here", "_law_thing", "_law_depth"] (spBent n) := by
  have GO : FnOk P w K mg base CX0 (k + 3) fO fdO ["_law_pot_here", "_law_part"] spOdd := ok_odd FO FP bP gP FT bT gT M.mi M.mn M.mt M.mli M.mst M.ml
  have GT : FnOk P w K mg base CX0 (k + 1) fT fdT ["_law_pot_here", "_law_size"] spTake := ok_take FT
  intro n
  induction n with
  | zero =>
    intro _
    refine F.ok scBent (fun vs H Q E h => ?_) (fun cdv A outer s H vs Q E hr h => ?_)
    · obtain ⟨p, v, dep, m, rfl, _⟩ := h
      rfl
    · obtain ⟨p, v, dep, m, rfl, nt, hp, q⟩ := h
      refine ⟨_, pss_cons (ps_if (PW.pt (pw_or (pt_not (pt_val (pe_callB call_isi (by rfl) M.mi (by decide +kernel) (pa_cons (pv 1) (pa_cons (pe_bltn (v := .ty "tuple") (by rfl) M.mt (by decide +kernel) rfl) pa_nil)))))
            (pw_or (pt_cmpR (op_eqD hr.units) (pv 1) (pe_tup pa_nil) (nomark _)) (pw_or (pt_cmpR op_eq (pv 2) pe_int (nomark _))
              (pw_or1 (pt_cmpR op_eq (pe_call GT (hr.mono (by omega)) (by rfl) gT FT.kp bT .nil pass0 (pa_cons (pv 0) (pa_cons pe_int pa_nil))) pe_int (nomark _)))))))
          (pss_one (ps_ret (pe_call GO hr (by rfl) gO FO.kp bO .nil pass0 (pa_cons (pv 0) (pa_cons (pv 1) pa_nil))))) pss_nil)
        pss_never, ?_⟩
      cases nt with
      | @int _ i i0 i1 =>
        refine ⟨.int i, rfl, .int i, .ty "tuple", _, _, _, rfl, .ty "tuple", (Dt.int (p := p) i).ty, kit_ty (kit_tuple (.int i)), _, rfl, ?_⟩
        refine ⟨.ref p, rfl, .int i, rfl, p, .int i, m, 0, 20, rfl, hp, .inl ⟨i, rfl, i0, i1⟩, by omega, fun H' x kp pot' _ nd => ?_⟩
        exact q H' x kp pot' ((nd ⟨i, rfl⟩).mono (by omega) (by decide))
  | succ n IH0 =>
    intro n10
    have IH := IH0 (by omega)
    refine F.ok (k := k + 4 + n) scBent (fun vs H Q E h => ?_) (fun cdv A outer s H vs Q E hr h => ?_)
    · obtain ⟨p, v, dep, m, rfl, _⟩ := h
      rfl
    · obtain ⟨p, v, dep, m, rfl, nt, hp, q⟩ := h
      refine ⟨_, pss_cons (ps_if (PW.pt (pw_or (pt_not (pt_val (pe_callB call_isi (by rfl) M.mi (by decide +kernel) (pa_cons (pv 1) (pa_cons (pe_bltn (v := .ty "tuple") (by rfl) M.mt (by decide +kernel) rfl) pa_nil)))))
            (pw_or (pt_cmpR (op_eqD hr.units) (pv 1) (pe_tup pa_nil) (nomark _)) (pw_or (pt_cmpR op_eq (pv 2) pe_int (nomark _))
              (pw_or1 (pt_cmpR op_eq (pe_call GT (hr.mono (by omega)) (by rfl) gT FT.kp bT .nil pass0 (pa_cons (pv 0) (pa_cons pe_int pa_nil))) pe_int (nomark _)))))))
          (pss_one (ps_ret (pe_call GO (hr.mono (by omega)) (by rfl) gO FO.kp bO .nil pass0 (pa_cons (pv 0) (pa_cons (pv 1) pa_nil))))) pss_nil)
        (pss_cons (ps_set (i := 3) scBent.nd rfl (.inl rfl) (pe_call GT (hr.mono (by omega)) (by rfl) gT FT.kp bT .nil pass0 (pa_cons (pv 0) (pa_cons (pe_callB call_len_seq (by rfl) M.ml PySem.boot_len (pa_cons (pv 1) pa_nil)) pa_nil))))
        (pss_one (ps_ret (pe_op op_catW (pe_op op_catW (pe_slice sl_tupW (pv 1) po_none (po_some (pv 3)))
            (pe_tup (pa_cons (pe_call IH hr (by rfl) gF F.kp bF .nil pass0 (pa_cons (pv 0) (pa_cons (pe_ix ix_tup (pv 1) (pv 3) (fun _ _ => rfl)) (pa_cons (pe_op op_sub (pv 2) pe_int) pa_nil)))) pa_nil)))
          (pe_slice sl_tupW (pv 1) (po_some (pe_op op_add (pv 3) pe_int)) po_none))))), ?_⟩
      have c20 := cb_20 n
      have cbb := cb_bb n
      have b1 : bb (n + 1) = 34 * (bb n + 2) + 30 := rfl
      cases nt with
      | @int _ i i0 i1 =>
        refine ⟨.int i, rfl, .int i, .ty "tuple", _, _, _, rfl, .ty "tuple", (Dt.int (p := p) i).ty, kit_ty (kit_tuple (.int i)), _, rfl, ?_⟩
        refine ⟨.ref p, rfl, .int i, rfl, p, .int i, m, 0, 20, rfl, hp.less (by omega), .inl ⟨i, rfl, i0, i1⟩, by omega, fun H' x kp pot' _ nd => ?_⟩
        exact q H' x kp pot' ((nd ⟨i, rfl⟩).mono (by omega) (by omega))
      | @tup _ t xs ht l1 items =>
        have ek : ∀ G : Hp, Tk H G → Ek p n (cb n) G xs := fun G tk y hy => ((items y hy).keep tk).nd
        -- something odd, where it stands
        have oddly : ∀ (G : Hp) (j : Nat), Kp p H G → Pot G p (m + j + 1) → ∀ Q' : VK, Q' = Q → spOdd [.ref p, .ref t] G Q' E0 := by
          intro G j kp pot Q' eQ
          obtain ⟨px, hpx⟩ := hp.lst
          have tk : Tk H G := kp.tk hpx
          refine ⟨p, .ref t, m + j, n, cb n, rfl, pot, .inr ⟨t, xs, rfl, tk _ _ ht, ek G tk, l1⟩, c20, fun H' x kp' pot' nd _ => ?_⟩
          rw [eQ]
          exact q H' x (kp.trans kp') (pot'.less (by omega)) (nd.mono (by omega) (by omega))
        refine ⟨.ref t, rfl, .ref t, .ty "tuple", _, _, true, rfl, .ty "tuple", .base (.tup ht), kit_ty (by decide +kernel), _, rfl, ?_⟩
        -- thing == ()
        refine ⟨.ref t, rfl, Nat.zero_le _, fun e0 ne0 => ?_⟩
        have s1 := same_new (o := .tup []) ne0
        obtain ⟨dT, dT1, dT2, dT3⟩ := (Nt.tup (n := n) (s1 _ _ ht) l1 (fun x hx => (items x hx).keep (Same.tk s1))).full (p := p)
        refine ⟨dT, .tuple [], dT1.dp, .tup (SqT.of upd_same) .nil, shaped_of dT3 (by omega), shaped_of (by simp [PyData.canLay0, PyData.canLayAll0]) (by simp [PyData.depth, PyData.depthAll]), _, rfl, ite2 (fun _ => ?_) (fun ne => ?_)⟩
        · exact ⟨.ref p, rfl, .ref t, rfl, oddly _ (3 * n + 3) (Kp.same s1) (((hp.same s1)).less (by omega)) _ rfl⟩
        have pos : 0 < xs.length := by
          cases xs with
          | cons y ys => simp
          | nil =>
            exfalso
            cases dT1 with
            | tup h al =>
              rw [s1 _ _ ht] at h
              cases h
              cases al
              exact ne (by simp [PyData.eqv, PyData.eqvAll])
            | lst h _ _ =>
              rw [s1 _ _ ht] at h
              cases h
        refine ⟨.int dep, rfl, rfl, _, rfl, ite2 (fun _ => ?_) (fun _ => ?_)⟩
        · exact ⟨.ref p, rfl, .ref t, rfl, oddly _ (3 * n + 3) (Kp.same s1) (((hp.same s1)).less (by omega)) _ rfl⟩
        refine ⟨.ref p, rfl, p, 6, m + 3 * n + 3, rfl, (hp.same s1).less (by omega), by decide, by decide, fun H2 r kp2 pot2 r0 r1 => ⟨rfl, _, rfl, ite2 (fun e => ?_) (fun _ => ?_)⟩⟩
        · exact ⟨.ref p, rfl, .ref t, rfl, oddly _ (3 * n + 2) ((Kp.same s1).trans kp2) (pot2.less (by omega)) _ rfl⟩
        obtain ⟨px, hpx⟩ := hp.lst
        have ht2 : H2 t = some (.tup xs) := ((Kp.same s1).trans kp2).tk hpx _ _ ht
        refine ⟨.ref p, rfl, .ref t, rfl, t, _, rfl, .inr (SqT.of ht2), p, _, m + 3 * n + 2, rfl, pot2, by omega, by omega, fun H3 a kp3 pot3 a0 a1 => ?_⟩
        have kp13 := ((Kp.same s1).trans kp2).trans kp3
        have tk3 : Tk H H3 := kp13.tk hpx
        have ht3 : H3 t = some (.tup xs) := tk3 _ _ ht
        have hi : a.toNat < xs.length := by omega
        have gi : xs[a.toNat]? = some xs[a.toNat] := List.getElem?_eq_getElem hi
        refine ⟨.ref t, rfl, .int a, rfl, a, rfl, t, _, rfl, ht3, fun G1 b1 ys1 g1 h1 sub1 _ => ?_⟩
        refine ⟨.ref p, rfl, .ref t, rfl, .int a, rfl, t, _, a, _, rfl, rfl, SqT.of (g1 _ _ ht3), at_of (j := a.toNat) (by omega) gi, .int dep, rfl, dep, 1, rfl, rfl, p, _, _, m + 1, rfl, (items _ (List.getElem_mem hi)).keep (fun b ys e => g1 _ _ (tk3 _ _ e)), (pot3.same g1).less (by omega), fun H4 x kp4 pot4 nd => ?_⟩
        obtain ⟨pz, hpz⟩ := (pot3.same g1).lst
        have tk4 : Tk G1 H4 := kp4.tk hpz
        refine ⟨Nat.le_of_lt (small1000 (by show 1 ≤ 1000; decide)), fun b2 nb2 => ?_⟩
        have g2 := same_new (o := .tup [x]) nb2
        have len1 := sub1.length_le
        refine ⟨b1, b2, ys1, [x], rfl, rfl, g2 _ _ (tk4 _ _ h1), upd_same, by show ys1.length + 1 ≤ 1000; omega, fun G5 b5 g5 h5 => ?_⟩
        refine ⟨.ref t, rfl, .int a, rfl, a, 1, rfl, rfl, a + 1, rfl, t, _, rfl, g5 _ _ (g2 _ _ (tk4 _ _ (g1 _ _ ht3))), fun G6 b6 ys6 g6 h6 sub6 _ => ?_⟩
        have len6 := sub6.length_le
        refine ⟨b5, b6, _, ys6, rfl, rfl, g6 _ _ h5, h6, by rw [List.length_append]; show ys1.length + 1 + ys6.length ≤ 1000; omega, fun G7 b7 g7 h7 => ?_⟩
        have s47 := ((g2.trans g5).trans g6).trans g7
        have kp : Kp p H G7 := ((kp13.trans (Kp.same g1)).trans kp4).trans (Kp.same s47)
        have ek7 : Ek p n (cb n) G7 xs := ek G7 (kp.tk hpx)
        have e7 : Ek p (n + 2) (bb n) G7 (ys1 ++ [x] ++ ys6) := by
          refine (Ek.app (Ek.app ?_ ?_) ?_)
          · exact (ek7.sub sub1).mono (by omega) cbb
          · exact Ek.one (nd.keep (Same.dk s47))
          · exact (ek7.sub sub6).mono (by omega) cbb
        have few7 : (ys1 ++ [x] ++ ys6).length ≤ 34 := by
          rw [List.length_append, List.length_append]
          show ys1.length + 1 + ys6.length ≤ 34
          omega
        exact q G7 _ kp ((pot4.same s47).less (by omega)) ((e7.tuple h7 few7 (by omega)).mono (by omega) (by omega))
end
end SL

namespace SL
open PySem PySem.Spec PyProof.Rows L2
theorem scSized : FnScope ["value"] ["value"] (defScope sSized) := ⟨rfl, rfl, rfl, by decide +kernel, rfl, by decide +kernel, by decide +kernel⟩
theorem scProbes : FnScope ["value", "slots", "order"] ["value"] (defScope sProbes) := ⟨rfl, rfl, rfl, by decide +kernel, rfl, by decide +kernel, by decide +kernel⟩
theorem scDue : FnScope ["_law_thing", "_law_size", "_law_one"] ["_law_thing"] (defScope sDue) := ⟨rfl, rfl, rfl, by decide +kernel, rfl, by decide +kernel, by decide +kernel⟩
theorem scAsked : FnScope ["_law_thing", "_law_kept", "_law_due_here"] ["_law_thing"] (defScope sAsked) := ⟨rfl, rfl, rfl, by decide +kernel, rfl, by decide +kernel, by decide +kernel⟩
/-! ### answers one by one -/
inductive Told (F : PyData → Prop) : List Bool → List PyData → Prop
  | nil : Told F [] []
  | cons {b : Bool} {y : PyData} {bs : List Bool} {ys : List PyData} : (b = true ↔ F y) → Told F bs ys → Told F (b :: bs) (y :: ys)
theorem Told.snoc {F : PyData → Prop} {b : Bool} {y : PyData} (h : b = true ↔ F y) : ∀ {bs : List Bool} {ys : List PyData}, Told F bs ys → Told F (bs ++ [b]) (ys ++ [y])
  | _, _, .nil => .cons h .nil
  | _, _, .cons a r => .cons a (r.snoc h)
theorem Told.all {F : PyData → Prop} : ∀ {bs : List Bool} {ys : List PyData}, Told F bs ys → (bs.all id = true ↔ ∀ y ∈ ys, F y)
  | _, _, .nil => by simp
  | _, _, .cons (b := b) (y := y) a r => by
    rw [List.all_cons, Bool.and_eq_true, r.all, List.forall_mem_cons]
    show (b = true ∧ _) ↔ _
    rw [a]
theorem Told.len {F : PyData → Prop} : ∀ {bs : List Bool} {ys : List PyData}, Told F bs ys → bs.length = ys.length
  | _, _, .nil => rfl
  | _, _, .cons _ r => by rw [List.length_cons, List.length_cons, r.len]
theorem dt_tuple {p : Addr} {H : Hp} {v : V} {d : PyData} (th : Th p H v d) (h : isT d = true) : ∃ (a : Addr) (xs : List V) (ds : List PyData), v = .ref a ∧ d = .tuple ds ∧ H a = some (.tup xs) ∧ DtAll p H xs ds := by
  cases th with
  | dat z =>
    cases z with
    | tup h1 a1 => exact ⟨_, _, _, rfl, rfl, h1, a1⟩
    | non => cases h
    | bl b => cases h
    | int i => cases h
    | str x => cases h
    | lst _ _ _ => cases h
  | dct _ _ => cases h
/-- probes -/
def IsPs (d : PyData) : Prop := ∃ ds es, d = .tuple ds ∧ ds.length ≤ 16 ∧ ds[0]? = some (.tuple es) ∧ 1 ≤ es.length ∧ es.length ≤ 16 ∧ ∀ x ∈ ds, IsP es.length x
/-- of 1 to 16 items -/
def sized : PyData → Bool
  | .tuple ds => decide (1 ≤ ds.length) && decide (ds.length ≤ 16)
  | _ => false
section
variable {P : Program} {w : World} {K : PySem.W.Frag} {mg : Str → Option Value} {base : Heap}
/-- all that the text's defs are -/
structure Defs (K : PySem.W.Frag) (mg : Str → Option Value) : Prop where
  within : ∃ f fd, Fun K "is_integer_within" "is_integer_within" sWithin f fd ∧ Binds K fd ["value", "low", "high"] [] ∧ mg "is_integer_within" = some (.ref f)
  order : ∃ f fd, Fun K "is_probe_order" "is_probe_order" sOrder f fd ∧ Binds K fd ["count", "value"] [] ∧ mg "is_probe_order" = some (.ref f)
  probes : ∃ f fd, Fun K "are_probes" "are_probes" sProbes f fd ∧ Binds K fd ["value"] [] ∧ mg "are_probes" = some (.ref f)
  sized : ∃ f fd, Fun K "is_sized" "is_sized" sSized f fd ∧ Binds K fd ["value"] [] ∧ mg "is_sized" = some (.ref f)
  pot : ∃ f fd, Fun K "_law_pot" "_law_pot" sPot f fd ∧ Binds K fd ["_law_script", "_law_k"] [] ∧ mg "_law_pot" = some (.ref f)
  take : ∃ f fd, Fun K "_law_take" "_law_take" sTake f fd ∧ Binds K fd ["_law_pot_here", "_law_size"] [] ∧ mg "_law_take" = some (.ref f)
  pick : ∃ f fd, Fun K "_law_pick" "_law_pick" sPick f fd ∧ Binds K fd ["_law_pot_here", "_law_some"] [] ∧ mg "_law_pick" = some (.ref f)
  mixed : ∃ f fd, Fun K "_law_mixed" "_law_mixed" sMixed f fd ∧ Binds K fd ["_law_pot_here", "_law_some"] [] ∧ mg "_law_mixed" = some (.ref f)
  line : ∃ f fd, Fun K "_law_line" "_law_line" sLine f fd ∧ Binds K fd ["_law_size", "_law_begin"] [] ∧ mg "_law_line" = some (.ref f)
  probe : ∃ f fd, Fun K "_law_probe" "_law_probe" sProbe f fd ∧ Binds K fd ["_law_pot_here", "_law_size"] [] ∧ mg "_law_probe" = some (.ref f)
  odd : ∃ f fd, Fun K "_law_odd" "_law_odd" sOdd f fd ∧ Binds K fd ["_law_pot_here", "_law_part"] [] ∧ mg "_law_odd" = some (.ref f)
  bent : ∃ f fd, Fun K "_law_bent" "_law_bent" sBent f fd ∧ Binds K fd ["_law_pot_here", "_law_thing", "_law_depth"] [] ∧ mg "_law_bent" = some (.ref f)
  number : ∃ f fd, Fun K "_law_is_number" "_law_is_number" sNumber f fd ∧ Binds K fd ["_law_thing", "_law_below"] [] ∧ mg "_law_is_number" = some (.ref f)
  isProbe : ∃ f fd, Fun K "_law_is_probe" "_law_is_probe" sIsProbe f fd ∧ Binds K fd ["_law_size", "_law_thing"] [] ∧ mg "_law_is_probe" = some (.ref f)
  due : ∃ f fd, Fun K "_law_due" "_law_due" sDue f fd ∧ Binds K fd ["_law_thing"] [] ∧ mg "_law_due" = some (.ref f)
  asked : ∃ f fd, Fun K "_law_asked" "_law_asked" sAsked f fd ∧ Binds K fd ["_law_thing"] [] ∧ mg "_law_asked" = some (.ref f)
  byHand : ∃ f fd, Fun K "_law_by_hand" "_law_by_hand" sByHand f fd ∧ Binds K fd [] [] ∧ mg "_law_by_hand" = some (.ref f)
  right : ∃ f fd, Fun K "_law_right" "_law_right" sRight f fd ∧ Binds K fd ["_law_pot_here"] [] ∧ mg "_law_right" = some (.ref f)
  zMost : ∃ t, mg "MOST" = some (.int 16 t)
  zIsinstance : mg "isinstance" = none
  zInt : mg "int" = none
  zBool : mg "bool" = none
  zTuple : mg "tuple" = none
  zLen : mg "len" = none
  zAll : mg "all" = none
  zSet : mg "set" = none
  zAbs : mg "abs" = none
  zList : mg "list" = none
  zRange : mg "range" = none
  zStr : mg "str" = none
  zSorted : mg "sorted" = none
  zRepr : mg "repr" = none
  zMax : mg "max" = none
  zMin : mg "min" = none
/-! ### is_sized, are_probes, due -/
def spSized : Sp := fun vs H Q _ => ∃ (p : Addr) (v : V) (d : PyData), vs = [v] ∧ Th p H v d ∧ Q (.bl (sized d)) H
theorem ok_sized {f : Addr} {fd : FuncData} {k : Nat} (F : Fun K "is_sized" "is_sized" sSized f fd) (T : Defs K mg) : FnOk P w K mg base CX0 (k + 1) f fd ["value"] spSized := by
  obtain ⟨tM, gM⟩ := T.zMost
  refine F.ok scSized (fun vs H Q E h => ?_) (fun cdv A outer s H vs Q E hr h => ?_)
  · obtain ⟨p, v, d, rfl, _⟩ := h
    rfl
  · obtain ⟨p, v, d, rfl, th, q⟩ := h
    refine ⟨_, pss_one (ps_ret (pe_and (pe_callB call_isi (by rfl) T.zIsinstance (by decide +kernel) (pa_cons (pv 0) (pa_cons (pe_bltn (v := .ty "tuple") (by rfl) T.zTuple (by decide +kernel) rfl) pa_nil)))
      (pe_one (pe_chain op_le op_le pe_int (pe_callB call_len_seq (by rfl) T.zLen PySem.boot_len (pa_cons (pv 0) pa_nil)) (pe_glob (v := .int 16) rfl gM ⟨_, rfl⟩))))), ?_⟩
    refine ⟨v, rfl, v, .ty "tuple", _, _, _, rfl, .ty "tuple", th.ty, kit_ty (kit_tuple d), _, rfl, ?_⟩
    by_cases isTu : isT d = true
    · rw [isTu]
      obtain ⟨a, xs, ds, rfl, rfl, ha, al⟩ := dt_tuple th isTu
      have lenx := al.len
      refine iteT ?_
      refine ⟨.ref a, rfl, a, xs, rfl, .inr (SqT.of ha), 1, _, rfl, rfl, _, rfl, ite2 (fun e => ?_) (fun e => ?_)⟩
      · refine ⟨_, 16, rfl, rfl, ?_⟩
        have z : sized (.tuple ds) = decide ((xs.length : Int) ≤ 16) := by
          show (decide (1 ≤ ds.length) && decide (ds.length ≤ 16)) = _
          have e' := of_decide_eq_true e
          rw [decide_eq_true (show 1 ≤ ds.length by omega), Bool.true_and]
          exact decide_eq_decide.mpr (by omega)
        rw [z] at q
        exact q
      · have z : sized (.tuple ds) = false := by
          show (decide (1 ≤ ds.length) && decide (ds.length ≤ 16)) = _
          have e' : ¬ (1 ≤ ds.length) := fun w => e (decide_eq_true (by omega))
          rw [decide_eq_false e', Bool.false_and]
        rw [z] at q
        exact q
    · rw [Bool.not_eq_true] at isTu
      rw [isTu]
      refine iteF ?_
      have z : sized d = false := by
        cases d <;> first | rfl | cases isTu
      rw [z] at q
      exact q
def spProbes : Sp := fun vs H Q _ => ∃ (p : Addr) (v : V) (d : PyData), vs = [v] ∧ Th p H v d ∧ fw d = true ∧ ∀ (b : Bool) (H' : Hp), Same H H' → (b = true ↔ IsPs d) → Q (.bl b) H'
theorem ok_probes {f : Addr} {fd : FuncData} {k : Nat} (F : Fun K "are_probes" "are_probes" sProbes f fd) (T : Defs K mg) : FnOk P w K mg base CX0 (k + 3) f fd ["value"] spProbes := by
  obtain ⟨fW, fdW, FW, bW, gW⟩ := T.within
  obtain ⟨fO, fdO, FO, bO, gO⟩ := T.order
  obtain ⟨fS, fdS, FS, bS, gS⟩ := T.sized
  have GO : FnOk P w K mg base CX0 (k + 2) fO fdO ["count", "value"] spOrder := ok_order FO FW bW gW T.zIsinstance T.zInt T.zBool T.zTuple T.zLen T.zAll T.zSet
  have GS : FnOk P w K mg base CX0 (k + 1) fS fdS ["value"] spSized := ok_sized FS T
  refine F.ok scProbes (fun vs H Q E h => ?_) (fun cdv A outer s H vs Q E hr h => ?_)
  · obtain ⟨p, v, d, rfl, _⟩ := h
    rfl
  · obtain ⟨p, v, d, rfl, th, hfw, q⟩ := h
    have hr1 : Room (k + 1) _ := hr.mono (by omega)
    refine ⟨_, pss_cons (ps_if (PW.pt (pw_or (pt_not (pt_val (pe_call GS hr1 (by rfl) gS FS.kp bS .nil pass0 (pa_cons (pv 0) pa_nil))))
          (pw_or1 (pt_not (pt_val (pe_call GS hr1 (by rfl) gS FS.kp bS .nil pass0 (pa_cons (pe_ix ix_tup (pv 0) pe_int (fun _ _ => rfl)) pa_nil))))))) (pss_one (ps_ret pe_bl)) pss_nil)
      (pss_cons (ps_set (i := 1) scProbes.nd rfl (.inr rfl) (pe_callB call_len_seq (by rfl) T.zLen PySem.boot_len (pa_cons (pe_ix ix_tup (pv 0) pe_int (fun _ _ => rfl)) pa_nil)))
      (pss_one (ps_ret (pe_callB (cr_all rfl) (by rfl) T.zAll (by decide +kernel) (pa_cons (pe_lc (own := [("order", 2)]) (g := gName 2) (tt := tYes) rfl scProbes.nd (pi_tup (pv 0))
          (blkOk_by (own := [("order", 2)]) (N := ["value", "slots", "order"]) (sc := defScope sProbes) (by decide +kernel)) (fun _ _ _ _ _ => pg_name (i := 2) scProbes.nd rfl (Or.inl rfl)) (fun _ _ _ _ _ => pts_nil)
          (fun _ _ _ _ _ => pe_call GO hr (by rfl) gO FO.kp bO .nil pass0 (pa_cons (pv 1) (pa_cons (pv 2) pa_nil)))) pa_nil))))), ?_⟩
    refine ⟨v, rfl, p, v, d, rfl, th, _, rfl, ?_⟩
    by_cases sz : sized d = true
    · rw [sz]
      obtain ⟨a, xs, ds, rfl, rfl, ha, al⟩ := dt_tuple th (by cases d <;> first | rfl | cases sz)
      have lenx := al.len
      have sz' : (decide (1 ≤ ds.length) && decide (ds.length ≤ 16)) = true := sz
      rw [Bool.and_eq_true, decide_eq_true_eq, decide_eq_true_eq] at sz'
      obtain ⟨x0, hx0⟩ : ∃ x0, xs[0]? = some x0 := ⟨xs[0], List.getElem?_eq_getElem (by omega)⟩
      obtain ⟨d0, hd0, dt0⟩ := al.get 0 x0 hx0
      refine ⟨.ref a, rfl, a, xs, 0, x0, rfl, rfl, SqT.of ha, atI_nat (j := 0) hx0, p, x0, d0, rfl, .dat dt0, _, rfl, ?_⟩
      by_cases sz0 : sized d0 = true
      · rw [sz0]
        obtain ⟨a0, xs0, es, rfl, rfl, ha0, al0⟩ := dt_tuple (.dat dt0) (by cases d0 <;> first | rfl | cases sz0)
        have len0 := al0.len
        have sz0' : (decide (1 ≤ es.length) && decide (es.length ≤ 16)) = true := sz0
        rw [Bool.and_eq_true, decide_eq_true_eq, decide_eq_true_eq] at sz0'
        refine ⟨.ref a, rfl, a, xs, 0, .ref a0, rfl, rfl, SqT.of ha, atI_nat (j := 0) hx0, a0, xs0, rfl, .inr (SqT.of ha0), ?_⟩
        refine ⟨.ref a, rfl, a, rfl, ⟨_, SqT.of ha⟩, fun D nD => ?_⟩
        refine lc_tup (K := K) (a := a) (xs := xs) (fun i G => Same H G ∧ ∃ bs : List Bool, Told (IsP es.length) bs (ds.take i) ∧ G D = some (.lst (bs.map V.bl))) ⟨same_new nD, [], .nil, upd_same⟩ (fun i G _ h => SqT.of (h.1 _ _ ha)) ?_ ?_
        · rintro i x G hx ⟨sm, bs, told, gd⟩
          obtain ⟨y, hy, dy⟩ := al.get i x hx
          have hlt : i < xs.length := (List.getElem?_eq_some_iff.mp hx).1
          have fwy := (fw_tuple hfw).2 y (List.mem_of_getElem? hy)
          refine ⟨rfl, _, rfl, x, rfl, p, es.length, x, y, ?_, .dat (dy.keep (Same.dk sm)), ?_, by omega, fun b G1 sm1 ib => ?_⟩
          · show [V.int (xs0.length : Int), x] = [V.int (es.length : Int), x]
            rw [len0]
          · intro zs ez
            subst ez
            exact (fw_tuple fwy).1
          · have tl := told.len
            rw [List.length_take] at tl
            refine ⟨_, sm1 _ _ gd, ?_, fun c o hc => ?_, bs ++ [b], ?_, ?_⟩
            · rw [List.length_map]
              exact small1000 (by omega)
            · rw [upd_ne (ne_of_none hc nD)]
              exact sm1 _ _ (sm _ _ hc)
            · rw [List.take_add_one, hy]
              exact told.snoc ib
            · rw [upd_same, List.map_append]
              rfl
        · rintro G ⟨sm, bs, told, gd⟩
          rw [List.take_of_length_le (by omega)] at told
          refine ⟨D, _, rfl, SqL.of gd, ?_⟩
          refine q _ G sm ?_
          rw [told.all]
          constructor
          · intro h
            exact ⟨ds, es, rfl, sz'.2, hd0, sz0'.1, sz0'.2, h⟩
          · rintro ⟨ds', es', e1, _, e2, _, _, h⟩
            cases e1
            rw [hd0] at e2
            cases e2
            exact h
      · rw [Bool.not_eq_true] at sz0
        rw [sz0]
        refine q false H (Same.refl H) ⟨(fun z => by cases z), ?_⟩
        rintro ⟨ds', es', e1, _, e2, e3, e4, _⟩
        cases e1
        rw [hd0] at e2
        cases e2
        have z : (decide (1 ≤ es'.length) && decide (es'.length ≤ 16)) = false := sz0
        rw [decide_eq_true e3, decide_eq_true e4] at z
        cases z
    · rw [Bool.not_eq_true] at sz
      rw [sz]
      refine q false H (Same.refl H) ⟨(fun z => by cases z), ?_⟩
      rintro ⟨ds', es', rfl, e1, e2, _⟩
      have z : (decide (1 ≤ ds'.length) && decide (ds'.length ≤ 16)) = false := sz
      have pos : 1 ≤ ds'.length := by
        have := (List.getElem?_eq_some_iff.mp e2).1
        omega
      rw [decide_eq_true pos, decide_eq_true e1] at z
      cases z
def spDue : Sp := spProbes
theorem ok_due {f : Addr} {fd : FuncData} {k : Nat} (F : Fun K "_law_due" "_law_due" sDue f fd) (T : Defs K mg) : FnOk P w K mg base CX0 (k + 3) f fd ["_law_thing"] spDue := by
  obtain ⟨fN, fdN, FN, bN, gN⟩ := T.number
  obtain ⟨fI, fdI, FI, bI, gI⟩ := T.isProbe
  have GI : FnOk P w K mg base CX0 (k + 2) fI fdI ["_law_size", "_law_thing"] spIsProbe := ok_isProbe FI FN bN gN T.zIsinstance T.zInt T.zBool T.zTuple T.zAll T.zSorted T.zList T.zRange
  refine F.ok scDue (fun vs H Q E h => ?_) (fun cdv A outer s H vs Q E hr h => ?_)
  · obtain ⟨p, v, d, rfl, _⟩ := h
    rfl
  · obtain ⟨p, v, d, rfl, th, hfw, q⟩ := h
    refine ⟨_, pss_cons (ps_if (PW.pt (pw_or (pt_not (pt_val (pe_callB call_isi (by rfl) T.zIsinstance (by decide +kernel) (pa_cons (pv 0) (pa_cons (pe_bltn (v := .ty "tuple") (by rfl) T.zTuple (by decide +kernel) rfl) pa_nil)))))
          (pw_or (pt_not (pt_chain op_lt op_lt pe_int (pe_callB call_len_seq (by rfl) T.zLen PySem.boot_len (pa_cons (pv 0) pa_nil)) pe_int))
            (pw_or1 (pt_not (pt_val (pe_callB call_isi (by rfl) T.zIsinstance (by decide +kernel) (pa_cons (pe_ix ix_tup (pv 0) pe_int (fun _ _ => rfl)) (pa_cons (pe_bltn (v := .ty "tuple") (by rfl) T.zTuple (by decide +kernel) rfl) pa_nil))))))))) (pss_one (ps_ret pe_bl)) pss_nil)
      (pss_cons (ps_set (i := 1) scDue.nd rfl (.inr rfl) (pe_callB call_len_seq (by rfl) T.zLen PySem.boot_len (pa_cons (pe_ix ix_tup (pv 0) pe_int (fun _ _ => rfl)) pa_nil)))
      (pss_one (ps_ret (pe_and (pe_chain op_lt op_lt pe_int (pv 1) pe_int) (pe_one (pe_callB (cr_all rfl) (by rfl) T.zAll (by decide +kernel) (pa_cons (pe_lc (own := [("_law_one", 2)]) (g := gName 2) (tt := tYes) rfl scDue.nd (pi_tup (pv 0))
          (blkOk_by (own := [("_law_one", 2)]) (N := ["_law_thing", "_law_size", "_law_one"]) (sc := defScope sDue) (by decide +kernel)) (fun _ _ _ _ _ => pg_name (i := 2) scDue.nd rfl (Or.inl rfl)) (fun _ _ _ _ _ => pts_nil)
          (fun _ _ _ _ _ => pe_call GI hr (by rfl) gI FI.kp bI .nil pass0 (pa_cons (pv 1) (pa_cons (pv 2) pa_nil)))) pa_nil))))))), ?_⟩
    have no : (∀ ds es, d = .tuple ds → ds.length ≤ 16 → ds[0]? = some (.tuple es) → 1 ≤ es.length → es.length ≤ 16 → False) → IsPs d → (false = true) := by
      rintro h ⟨ds, es, e1, e2, e3, e4, e5, _⟩
      exact (h ds es e1 e2 e3 e4 e5).elim
    refine ⟨v, rfl, v, .ty "tuple", _, _, _, rfl, .ty "tuple", th.ty, kit_ty (kit_tuple d), _, rfl, ?_⟩
    by_cases isTu : isT d = true
    · rw [isTu]
      obtain ⟨a, xs, ds, rfl, rfl, ha, al⟩ := dt_tuple th isTu
      have lenx := al.len
      refine ⟨.ref a, rfl, a, xs, rfl, .inr (SqT.of ha), 0, _, rfl, rfl, _, rfl, ite2 (fun e1 => ?_) (fun e1 => ?_)⟩
      · have l1 := of_decide_eq_true e1
        refine ⟨_, 17, rfl, rfl, _, rfl, ?_⟩
        by_cases l2 : (xs.length : Int) < 17
        · rw [decide_eq_true l2]
          obtain ⟨x0, hx0⟩ : ∃ x0, xs[0]? = some x0 := ⟨xs[0]'(by omega), List.getElem?_eq_getElem (by omega)⟩
          obtain ⟨d0, hd0, dt0⟩ := al.get 0 x0 hx0
          refine ⟨.ref a, rfl, a, xs, 0, x0, rfl, rfl, SqT.of ha, atI_nat (j := 0) hx0, x0, .ty "tuple", _, _, _, rfl, .ty "tuple", dt0.ty, kit_ty (kit_tuple d0), _, rfl, ?_⟩
          by_cases isT0 : isT d0 = true
          · rw [isT0]
            obtain ⟨a0, xs0, es, rfl, rfl, ha0, al0⟩ := dt_tuple (.dat dt0) isT0
            have len0 := al0.len
            refine ⟨.ref a, rfl, a, xs, 0, .ref a0, rfl, rfl, SqT.of ha, atI_nat (j := 0) hx0, a0, xs0, rfl, .inr (SqT.of ha0), ?_⟩
            refine ⟨_, rfl, 0, _, rfl, rfl, _, rfl, ite2 (fun e2 => ?_) (fun e2 => ?_)⟩
            · have l3 := of_decide_eq_true e2
              refine ⟨_, 17, rfl, rfl, _, rfl, ?_⟩
              by_cases l4 : (xs0.length : Int) < 17
              · rw [decide_eq_true l4]
                refine iteT ?_
                refine ⟨.ref a, rfl, a, rfl, ⟨_, SqT.of ha⟩, fun D nD => ?_⟩
                refine lc_tup (K := K) (a := a) (xs := xs) (fun i G => Same H G ∧ ∃ bs : List Bool, Told (IsP es.length) bs (ds.take i) ∧ G D = some (.lst (bs.map V.bl))) ⟨same_new nD, [], .nil, upd_same⟩ (fun i G _ h => SqT.of (h.1 _ _ ha)) ?_ ?_
                · rintro i x G hx ⟨sm, bs, told, gd⟩
                  obtain ⟨y, hy, dy⟩ := al.get i x hx
                  have hlt : i < xs.length := (List.getElem?_eq_some_iff.mp hx).1
                  have fwy := (fw_tuple hfw).2 y (List.mem_of_getElem? hy)
                  refine ⟨rfl, _, rfl, x, rfl, p, es.length, x, y, ?_, .dat (dy.keep (Same.dk sm)), ?_, by omega, fun b G1 sm1 ib => ?_⟩
                  · show [V.int (xs0.length : Int), x] = [V.int (es.length : Int), x]
                    rw [len0]
                  · intro zs ez
                    subst ez
                    exact (fw_tuple fwy).1
                  · have tl := told.len
                    rw [List.length_take] at tl
                    refine ⟨_, sm1 _ _ gd, ?_, fun c o hc => ?_, bs ++ [b], ?_, ?_⟩
                    · rw [List.length_map]
                      exact small1000 (by omega)
                    · rw [upd_ne (ne_of_none hc nD)]
                      exact sm1 _ _ (sm _ _ hc)
                    · rw [List.take_add_one, hy]
                      exact told.snoc ib
                    · rw [upd_same, List.map_append]
                      rfl
                · rintro G ⟨sm, bs, told, gd⟩
                  rw [List.take_of_length_le (by omega)] at told
                  refine ⟨D, _, rfl, SqL.of gd, ?_⟩
                  refine q _ G sm ?_
                  rw [told.all]
                  constructor
                  · intro h
                    exact ⟨ds, es, rfl, by omega, hd0, by omega, by omega, h⟩
                  · rintro ⟨ds', es', e1, _, e2, _, _, h⟩
                    cases e1
                    rw [hd0] at e2
                    cases e2
                    exact h
              · rw [decide_eq_false l4]
                refine iteF ?_
                refine q false H (Same.refl H) ⟨(fun z => by cases z), no fun ds' es' z1 z2 z3 z4 z5 => ?_⟩
                cases z1
                rw [hd0] at z3
                cases z3
                omega
            · refine ⟨_, rfl, ?_⟩
              refine q false H (Same.refl H) ⟨(fun z => by cases z), no fun ds' es' z1 z2 z3 z4 z5 => ?_⟩
              cases z1
              rw [hd0] at z3
              cases z3
              exact e2 (decide_eq_true (by omega))
          · rw [Bool.not_eq_true] at isT0
            rw [isT0]
            refine q false H (Same.refl H) ⟨(fun z => by cases z), no fun ds' es' z1 z2 z3 z4 z5 => ?_⟩
            cases z1
            rw [hd0] at z3
            cases z3
            cases isT0
        · rw [decide_eq_false l2]
          refine q false H (Same.refl H) ⟨(fun z => by cases z), no fun ds' es' z1 z2 z3 z4 z5 => ?_⟩
          cases z1
          omega
      · refine ⟨_, rfl, ?_⟩
        refine q false H (Same.refl H) ⟨(fun z => by cases z), no fun ds' es' z1 z2 z3 z4 z5 => ?_⟩
        cases z1
        have := (List.getElem?_eq_some_iff.mp z3).1
        exact e1 (decide_eq_true (by omega))
    · rw [Bool.not_eq_true] at isTu
      rw [isTu]
      refine q false H (Same.refl H) ⟨(fun z => by cases z), no fun ds' es' z1 z2 z3 z4 z5 => ?_⟩
      cases z1
      cases isTu
end
end SL

namespace SL
open PySem PySem.Spec PyProof.Rows L2
/-- f(k = v, ..), nothing by place -/
theorem pe_callK0 {X : Cx} {CX : CXT} {k : Nat} {f : Addr} {fd : FuncData} {ps ks : List Str} {sp : Sp} {E : XK} {x : Str} {p pos : Pos} {kws : List Keyword} {tk : TA} {g : List Value → List Value → List Value} {gV : List V → List V → List V}
    (F : FnOk X.prog X.w X.K X.mg X.base CX k f fd ps sp) (room : Room k X.A) (gl : Gl X x) (at_ : X.mg x = some (.ref f)) (keep : PySem.W.keepIn X.K (.ref f) = true) (kb : KBinds X.K fd ps ks g gV) (ps_ : Passes CX X E) (kw : PK X kws tk)
    (h1 : (backToKw pos (keywordEach kws X.env)).all (·.1.isSome) = true := by rfl) (h2 : (backToKw pos (keywordEach kws X.env)).filterMap (·.1) = ks := by rfl)
    (h3 : ((backTo pos (starEach [] X.env)).any (·.1) || (backToKw pos (keywordEach kws X.env)).any (·.1.isNone)) = false := by rfl) (h4 : (x == ("__debug__" : Str)) = false := by decide) :
    PE X (.Call (.Name x p) [] kws pos) (tCallK sp gV E tNil tk) := by
  constructor
  intro pins s σ H Q I h
  refine wpAny_Call_Name_kw (ld_glob I gl at_ ?_ h4)
  refine PySem.W.callWith_KW0 (h₀ := X.base) I.ok.mod.kin keep h1 (thn (kw.run pos pins s σ H _ I h) ?_) h3
  rintro ws s2 ⟨zs, H2, I2, rz, q2⟩
  refine ⟨I2.kIn, ?_⟩
  rw [h2]
  exact run_fnk (us := []) (vs := []) F room kb ps_ I2 .nil rz q2
/-- f(k = v) of a def of one parameter -/
def oneK {α : Type} : List α → List α → List α
  | [], [a] => [a]
  | _, _ => []
theorem kb_one {K : PySem.W.Frag} {fd : FuncData} {x : Str} (h : ∀ a : Value, bindArgs fd ⟨[], [(x, a)]⟩ = pure [(x, a)]) : KBinds K fd [x] [x] oneK oneK := by
  constructor
  · intro s us ws _ hl
    match us, ws, hl with
    | [], [a], _ => exact .of_eq (h a)
    | [], [], hl => cases hl
    | [], _ :: _ :: _, hl => cases hl
    | _ :: _, _, hl => cases hl
  · intro vs us zs ws r rz
    cases r with
    | nil =>
      cases rz with
      | nil => exact .nil
      | cons r1 t1 =>
        cases t1 with
        | nil => exact .cons r1 .nil
        | cons _ _ => exact .nil
    | cons _ _ => exact .nil
theorem Good.fits {d : PyData} (h : Good d) : d.showable = true ∧ d.depth ≤ 50 ∧ d.shown.length ≤ sizeLine := by
  obtain ⟨a, b, c, _⟩ := h
  refine ⟨a, by omega, ?_⟩
  rw [sizeLine_eq]
  omega
/-- what may be asked about -/
def Fine (p : Addr) (H : Hp) (x : V) : Prop := ∃ d, Th p H x d ∧ Good d
theorem Fine.same {p : Addr} {H H' : Hp} {x : V} (h : Fine p H x) (s : Same H H') : Fine p H' x := by
  obtain ⟨d, a, b⟩ := h
  exact ⟨d, a.same s, b⟩
theorem Nd.fine {p : Addr} {k c : Nat} {H : Hp} {x : V} (h : Nd p k c H x) (hk : k ≤ 20) (hc : c ≤ 10000000) : Fine p H x := by
  obtain ⟨d, a, b⟩ := h
  exact ⟨d, .dat a, b.mono hk hc⟩
section
variable {P : Program} {w : World} {K : PySem.W.Frag} {mg : Str → Option Value} {base : Heap}
/-! ### asked -/
def spAsked : Sp := fun vs H Q _ => ∃ (p : Addr) (v : V), vs = [v] ∧ Fine p H v ∧ ∀ H' : Hp, Same H H' → Q (.bl true) H'
theorem ok_asked {f : Addr} {fd : FuncData} {k : Nat} (F : Fun K "_law_asked" "_law_asked" sAsked f fd) (T : Defs K mg) : FnG P w K mg base (k + 4) f fd ["_law_thing"] spAsked := by
  obtain ⟨fO, fdO, FO, bO, gO⟩ := T.probes
  obtain ⟨fI, fdI, FI, bI, gI⟩ := T.due
  have GO : FnOk P w K mg base CX0 (k + 3) fO fdO ["value"] spProbes := ok_probes FO T
  have GI : FnOk P w K mg base CX0 (k + 3) fI fdI ["_law_thing"] spDue := ok_due FI T
  refine fnG_mk F scAsked (fun vs H Q E h => ?_) (fun cdv A outer s H vs Q E hgd hr h => ?_)
  · obtain ⟨p, v, rfl, _⟩ := h
    rfl
  · obtain ⟨p, v, rfl, ⟨d, th, good⟩, q⟩ := h
    have gd : (cxOf CX0 P w K mg base ["_law_thing", "_law_kept", "_law_due_here"] "_law_asked" (defScope sAsked) f cdv A outer s H E).nox.A.guards = some [] := hgd
    refine ⟨_, pss_cons (ps_par (i := 1) (j := 2) (by rfl) scAsked.nd rfl rfl (by decide) rfl rfl (pa_cons (pe_callB (call_reprD gd hr.units) (by rfl) T.zRepr (by decide +kernel) (pa_cons (pv 0) pa_nil))
        (pa_cons (pe_callB (call_reprD gd hr.units) (by rfl) T.zRepr (by decide +kernel) (pa_cons (pe_call GI hr (by rfl) gI FI.kp bI .nil pass0 (pa_cons (pv 0) pa_nil)) pa_nil)) pa_nil)) (by rfl))
      (pss_one (ps_ret (pe_and (pe_cmpR op_eq (pe_callB (call_reprD gd hr.units) (by rfl) T.zRepr (by decide +kernel) (pa_cons (pe_call GO hr (by rfl) gO FO.kp bO .nil pass0 (pa_cons (pv 0) pa_nil)) pa_nil)) (pv 2) (nomark _))
        (pe_one (pe_cmpR op_eq (pe_callB (call_reprD gd hr.units) (by rfl) T.zRepr (by decide +kernel) (pa_cons (pv 0) pa_nil)) (pv 1) (nomark _)))))), ?_⟩
    obtain ⟨g1, g2, g3⟩ := good.fits
    have boolFits : ∀ b : Bool, (PyData.bool b).showable = true ∧ (PyData.bool b).depth ≤ 50 ∧ (PyData.bool b).shown.length ≤ sizeLine := fun b => by
      have z := el_bool b
      refine ⟨z.sh, Nat.le_trans z.dp (by omega), ?_⟩
      have := z.ln
      rw [sizeLine_eq]
      omega
    refine ⟨v, rfl, v, d, rfl, th.da, g1, g2, g3, ?_⟩
    refine ⟨v, rfl, p, v, d, rfl, th, good.fw, fun b H1 s1 ib => ?_⟩
    refine ⟨.bl b, .bool b, rfl, (Th.dat (p := p) (.bl b)).da, (boolFits b).1, (boolFits b).2.1, (boolFits b).2.2, ?_⟩
    refine ⟨_, _, rfl, ?_⟩
    refine ⟨v, rfl, p, v, d, rfl, th.same s1, good.fw, fun b2 H2 s2 ib2 => ?_⟩
    refine ⟨.bl b2, .bool b2, rfl, (Th.dat (p := p) (.bl b2)).da, (boolFits b2).1, (boolFits b2).2.1, (boolFits b2).2.2, ?_⟩
    have eb : b2 = b := by
      cases b <;> cases b2 <;> simp_all
    subst eb
    refine ⟨_, rfl, rfl, _, rfl, ?_⟩
    rw [decide_eq_true rfl]
    refine iteT ?_
    refine ⟨v, rfl, v, d, rfl, ((th.same s1).same s2).da, g1, g2, g3, _, rfl, rfl, ?_⟩
    rw [decide_eq_true rfl]
    exact q H2 (s1.trans s2)
end
/-! ### displays, by what they give -/
/-- evaluated where all of H0 stands, it gives such data and leaves all as it was -/
def EvD (p : Addr) (k c : Nat) (te : TE) (σ : L2.St) (H0 : Hp) : Prop := ∀ (H : Hp) (Q : VK), Same H0 H → (∀ G x, Same H G → Nd p k c G x → Q x G) → te σ H Q
def EvL (p : Addr) (k c n : Nat) (ta : TA) (σ : L2.St) (H0 : Hp) : Prop := ∀ (H : Hp) (Q : List V → Hp → Prop), Same H0 H → (∀ G xs, Same H G → Ek p k c G xs → xs.length = n → Q xs G) → ta σ H Q
/-- .. gives what may be asked about -/
def EvF (p : Addr) (te : TE) (σ : L2.St) (H0 : Hp) : Prop := ∀ (H : Hp) (Q : VK), Same H0 H → (∀ G x, Same H G → Fine p G x → Q x G) → te σ H Q
def EvFL (p : Addr) (n : Nat) (ta : TA) (σ : L2.St) (H0 : Hp) : Prop := ∀ (H : Hp) (Q : List V → Hp → Prop), Same H0 H → (∀ G xs, Same H G → (∀ x ∈ xs, Fine p G x) → xs.length = n → Q xs G) → ta σ H Q
section
variable {p : Addr} {k c k' c' n m : Nat} {te : TE} {ta : TA} {σ : L2.St} {H0 : Hp}
theorem EvD.mono (h : EvD p k c te σ H0) (hk : k ≤ k') (hc : c ≤ c') : EvD p k' c' te σ H0 := fun H Q s q => h H Q s fun G x sg nd => q G x sg (nd.mono hk hc)
theorem ev_int {i : Int} (h0 : -10 ≤ i) (h1 : i ≤ 200) : EvD p 0 20 (tC (.int i)) σ H0 := fun H Q _ q => q H _ (Same.refl H) (nd_int h0 h1)
theorem ev_bool {b : Bool} : EvD p 0 20 (tC (.bl b)) σ H0 := fun H Q _ q => q H _ (Same.refl H) (nd_bool b)
theorem ev_none : EvD p 0 20 (tC .non) σ H0 := fun H Q _ q => q H _ (Same.refl H) nd_none
theorem ev_text {x : Str} (h : (PyData.shown (.str x)).length ≤ 20) : EvD p 0 20 (tC (.str x)) σ H0 := fun H Q _ q => q H _ (Same.refl H) (nd_text h)
theorem evl_nil : EvL p k c 0 tNil σ H0 := fun H Q _ q => q H [] (Same.refl H) Ek.nil rfl
theorem evl_cons (h : EvD p k c te σ H0) (r : EvL p k c n ta σ H0) : EvL p k c (n + 1) (tCons te ta) σ H0 := fun H Q s q =>
  h H _ s fun G x sg nd => r G _ (s.trans sg) fun G2 xs sg2 ek l => q G2 (x :: xs) (sg.trans sg2) ((Ek.one (nd.keep (Same.dk sg2))).app ek) (by rw [List.length_cons, l])
theorem ev_tup (h : EvL p k c n ta σ H0) (l : n ≤ 200) : EvD p (k + 1) (n * (c + 2) + 3) (tTup ta) σ H0 := fun H Q s q =>
  h H _ s fun G xs sg ek e => ⟨by rw [e, sizeLine_eq]; omega, fun t nt => q _ _ (sg.trans (same_new nt)) ((ek.keep (Same.dk (same_new nt))).tuple upd_same (by omega) l)⟩
theorem ev_lst (hp : H0 p ≠ none) (h : EvL p k c n ta σ H0) (l : n ≤ 200) : EvD p (k + 1) (n * (c + 2) + 3) (tLst ta) σ H0 := fun H Q s q =>
  h H _ s fun G xs sg ek e => ⟨by rw [e, sizeLine_eq]; omega, fun t nt => q _ _ (sg.trans (same_new nt)) ((ek.keep (Same.dk (same_new nt))).list upd_same (fun z => by
    cases hh : H0 p with
    | none => exact hp hh
    | some o =>
      rw [z, (s.trans sg) _ _ hh] at nt
      cases nt) (by omega) l)⟩
/-- a tuple of one item, again and again -/
theorem ev_rep {K : PySem.W.Frag} {j : Int} (h : EvD p k c te σ H0) (hj : 2 ≤ j) (hj2 : j ≤ 17) : EvD p (k + 1) (17 * (c + 2) + 3) (tOp (rRepT K) (tTup (tCons te tNil)) (tC (.int j))) σ H0 := fun H Q s q =>
  h H _ s fun G x sg nd => ⟨by show 1 ≤ sizeLine; decide, fun t nt => ⟨t, j, [x], rfl, rfl, SqT.of upd_same, by simp, hj, by omega, by simp, fun u nu => by
    have e : (List.replicate j.toNat [x]).flatten = List.replicate j.toNat x := by simp
    have s2 := (same_new (o := .tup [x]) nt)
    have s3 := (same_new (o := .tup (List.replicate j.toNat [x]).flatten) nu)
    refine q _ _ ((sg.trans s2).trans s3) ?_
    have nd3 := nd.keep (Same.dk (p := p) (s2.trans s3))
    refine Ek.tuple (xs := (List.replicate j.toNat [x]).flatten) (m := 17) (fun y hy => ?_) upd_same ?_ (by omega)
    · rw [e] at hy
      rw [List.eq_of_mem_replicate hy]
      exact nd3
    · rw [e, List.length_replicate]
      omega⟩⟩
theorem EvD.fine (h : EvD p k c te σ H0) (hk : k ≤ 20) (hc : c ≤ 10000000) : EvF p te σ H0 := fun H Q s q => h H Q s fun G x sg nd => q G x sg (nd.fine hk hc)
theorem ev_var {i : Nat} {v : V} (e : σ[i]? = some (some v)) (h : Nd p k c H0 v) : EvD p k c (tVar i) σ H0 := fun H Q s q => ⟨v, e, q H v (Same.refl H) (h.keep (Same.dk s))⟩
theorem ev_dict (hp : H0 p ≠ none) : EvF p tDNewK σ H0 := fun H Q s q => fun t nt => by
  refine q _ _ (same_new nt) ⟨.dict [], .dct upd_same (fun z => ?_), ⟨by decide +kernel, by decide +kernel, by decide +kernel, by decide +kernel⟩⟩
  cases hh : H0 p with
  | none => exact hp hh
  | some o =>
    rw [z, s _ _ hh] at nt
    cases nt
/-- x = [..], a list of what may be asked about -/
theorem use_set {i : Nat} {U : TS} {D : Ends} {H : Hp} (h : EvFL p n ta σ H0) (s : Same H0 H) (ln : n ≤ 1000)
    (q : ∀ (G : Hp) (xs : List V) (l : Addr), Same H G → (∀ x ∈ xs, Fine p G x) → xs.length = n → G l = some (.lst xs) → U D (σ.set i (some (.ref l))) G) :
    tSeq (tAsg (tLst ta) (gName i)) U D σ H :=
  h H _ s fun G xs sg fine e => ⟨by rw [e, sizeLine_eq]; omega, fun l nl => q _ xs l (sg.trans (same_new nl)) (fun x hx => (fine x hx).same (same_new nl)) e upd_same⟩
/-- x + [..] -/
theorem use_cat {j : Nat} {H : Hp} {l0 : Addr} {xs0 : List V} {Q : VK} (h : EvFL p n ta σ H0) (s : Same H0 H) (ln : n ≤ 1000) (hx : σ[j]? = some (some (.ref l0))) (hl : H l0 = some (.lst xs0)) (l0n : xs0.length ≤ 1000) (f0 : ∀ x ∈ xs0, Fine p H x)
    (q : ∀ (G : Hp) (xs : List V) (l : Addr), Same H G → (∀ x ∈ xs, Fine p G x) → xs.length = xs0.length + n → G l = some (.lst xs) → Q (.ref l) G) :
    tOp rCat (tVar j) (tLst ta) σ H Q :=
  ⟨_, hx, h H _ s fun G xs sg fine e => ⟨by rw [e, sizeLine_eq]; omega, fun l nl => ⟨l0, l, xs0, xs, rfl, rfl, (sg.trans (same_new nl)) _ _ hl, upd_same, by rw [e, sizeLine_eq]; omega, fun u nu =>
    q _ (xs0 ++ xs) u ((sg.trans (same_new nl)).trans (same_new nu)) (fun x hx => by
      rcases List.mem_append.mp hx with z | z
      · exact ((f0 x z).same (sg.trans (same_new nl))).same (same_new nu)
      · exact ((fine x z).same (same_new nl)).same (same_new nu)) (by rw [List.length_append, e]) upd_same⟩⟩⟩
theorem use_setcat {i j : Nat} {U : TS} {D : Ends} {H : Hp} {l0 : Addr} {xs0 : List V} (h : EvFL p n ta σ H0) (s : Same H0 H) (ln : n ≤ 1000) (hx : σ[j]? = some (some (.ref l0))) (hl : H l0 = some (.lst xs0)) (l0n : xs0.length ≤ 1000) (f0 : ∀ x ∈ xs0, Fine p H x)
    (q : ∀ (G : Hp) (xs : List V) (l : Addr), Same H G → (∀ x ∈ xs, Fine p G x) → xs.length = xs0.length + n → G l = some (.lst xs) → U D (σ.set i (some (.ref l))) G) :
    tSeq (tAsg (tOp rCat (tVar j) (tLst ta)) (gName i)) U D σ H := use_cat (Q := fun x H1 => gName i x σ H1 (U D)) h s ln hx hl l0n f0 q
theorem use_retcat {j : Nat} {D : Ends} {H : Hp} {l0 : Addr} {xs0 : List V} (h : EvFL p n ta σ H0) (s : Same H0 H) (ln : n ≤ 1000) (hx : σ[j]? = some (some (.ref l0))) (hl : H l0 = some (.lst xs0)) (l0n : xs0.length ≤ 1000) (f0 : ∀ x ∈ xs0, Fine p H x)
    (q : ∀ (G : Hp) (xs : List V) (l : Addr), Same H G → (∀ x ∈ xs, Fine p G x) → xs.length = xs0.length + n → G l = some (.lst xs) → D.rt (.ref l) G) :
    tRet (tOp rCat (tVar j) (tLst ta)) D σ H := use_cat (Q := D.rt) h s ln hx hl l0n f0 q
theorem evf_nil : EvFL p 0 tNil σ H0 := fun H Q _ q => q H [] (Same.refl H) (fun _ h => by cases h) rfl
theorem evf_cons (h : EvF p te σ H0) (r : EvFL p n ta σ H0) : EvFL p (n + 1) (tCons te ta) σ H0 := fun H Q s q =>
  h H _ s fun G x sg nd => r G _ (s.trans sg) fun G2 xs sg2 ek l => q G2 (x :: xs) (sg.trans sg2) (fun y hy => by
    rcases List.mem_cons.mp hy with z | z
    · rw [z]
      exact nd.same sg2
    · exact ek y z) (by rw [List.length_cons, l])
end
end SL

namespace SL
open PySem PySem.Spec PyProof.Rows L2
theorem scByHand : FnScope ["_law_whole", "_law_more", "_law_some"] [] (defScope sByHand) := ⟨rfl, rfl, rfl, by decide +kernel, rfl, by decide +kernel, by decide +kernel⟩
theorem R_small {n : Nat} (h : n ≤ 100) : ∀ x ∈ R n, 0 ≤ x ∧ x ≤ 100 := fun x hx => by
  have := R_mem.mp hx
  omega
section
variable {P : Program} {w : World} {K : PySem.W.Frag} {mg : Str → Option Value} {base : Heap}
def spByHand : Sp := fun vs H Q _ => vs = [] ∧ ∀ (H' : Hp) (l p : Addr) (xs : List V), Same H H' → H' l = some (.lst xs) → (∀ x ∈ xs, Fine p H' x) → xs.length ≤ 100 → Q (.ref l) H'
theorem ok_byHand {f : Addr} {fd : FuncData} {k : Nat} (F : Fun K "_law_by_hand" "_law_by_hand" sByHand f fd) (T : Defs K mg) : FnOk P w K mg base CX0 (k + 1) f fd [] spByHand := by
  refine F.ok scByHand (fun vs H Q E h => ?_) (fun cdv A outer s H vs Q E hr h => ?_)
  · obtain ⟨rfl, _⟩ := h
    rfl
  · obtain ⟨rfl, q⟩ := h
    refine ⟨_, pss_cons (ps_par (i := 0) (j := 1) (by rfl) scByHand.nd rfl rfl (by decide) rfl rfl (pa_cons (pe_callTy call_tuple_of (by rfl) T.zTuple (by decide +kernel) (pa_cons (pe_listRg rfl (by rfl) T.zList (prg_1 (by rfl) T.zRange pe_int)) pa_nil))
          (pa_cons (pe_callTy call_tuple_of (by rfl) T.zTuple (by decide +kernel) (pa_cons (pe_listRg rfl (by rfl) T.zList (prg_1 (by rfl) T.zRange pe_int)) pa_nil)) pa_nil)) (by rfl))
      (pss_cons (ps_set (i := 2) scByHand.nd rfl (.inl rfl) (pe_lst (pa_cons (pe_op op_repT (pe_tup (pa_cons (pv 0) pa_nil)) pe_int) (pa_cons (pe_op op_repT (pe_tup (pa_cons (pv 0) pa_nil)) pe_int) (pa_cons (pe_tup (pa_cons (pv 1) pa_nil))
          (pa_cons (pe_op op_repT (pe_tup (pa_cons (pe_tup (pa_cons pe_int pa_nil)) pa_nil)) pe_int) (pa_cons (pe_op op_repT (pe_tup (pa_cons (pe_tup (pa_cons pe_int pa_nil)) pa_nil)) pe_int)
          (pa_cons (pe_tup (pa_cons (pe_tup pa_nil) pa_nil)) (pa_cons (pe_tup pa_nil) (pa_cons (pe_tup (pa_cons (pe_tup (pa_cons pe_int pa_nil)) (pa_cons (pe_tup (pa_cons pe_int (pa_cons pe_int pa_nil))) pa_nil))) pa_nil))))))))))
      (pss_cons (ps_set (i := 2) scByHand.nd rfl (.inl rfl) (pe_op op_cat (pv 2) (pe_lst (pa_cons (pe_tup (pa_cons (pe_tup (pa_cons pe_int (pa_cons pe_int pa_nil))) (pa_cons (pe_tup (pa_cons pe_int (pa_cons pe_int pa_nil))) pa_nil)))
          (pa_cons pe_non (pa_cons pe_bl (pa_cons pe_int (pa_cons pe_str (pa_cons (pe_lst pa_nil) (pa_cons pe_dnewK (pa_cons (pe_lst (pa_cons (pe_tup (pa_cons pe_int pa_nil)) pa_nil))
          (pa_cons (pe_tup (pa_cons (pe_tup (pa_cons pe_int pa_nil)) (pa_cons pe_non pa_nil))) (pa_cons (pe_tup (pa_cons pe_int pa_nil)) (pa_cons (pe_tup (pa_cons (pe_tup (pa_cons pe_int pa_nil)) (pa_cons (pe_lst (pa_cons pe_int pa_nil)) pa_nil))) pa_nil)))))))))))))) 
      (pss_one (ps_ret (pe_op op_cat (pv 2) (pe_lst (pa_cons (pe_tup (pa_cons (pe_tup (pa_cons pe_bl pa_nil)) pa_nil)) (pa_cons (pe_tup (pa_cons (pe_tup (pa_cons pe_int pa_nil)) pa_nil))
          (pa_cons (pe_tup (pa_cons (pe_tup (pa_cons pe_int (pa_cons pe_int pa_nil))) pa_nil)) pa_nil))))))))), ?_⟩
    refine ⟨16, rfl, RgOk.of_le (by decide) (by decide) (by decide) (by decide), fun l1 nl1 => ⟨l1, _, rfl, .inl ⟨SqL.of upd_same, fun tw ntw => ?_⟩⟩⟩
    refine ⟨17, rfl, RgOk.of_le (by decide) (by decide) (by decide) (by decide), fun l2 nl2 => ⟨l2, _, rfl, .inl ⟨SqL.of upd_same, fun tm ntm => ?_⟩⟩⟩
    refine ⟨_, _, rfl, ?_⟩
    have s1 := same_new (o := .lst (rgV 0 16)) nl1
    have s2 := same_new (o := .tup (rgV 0 16)) ntw
    have s3 := same_new (o := .lst (rgV 0 17)) nl2
    have s4 := same_new (o := .tup (rgV 0 17)) ntm
    have hw := s4 _ _ (s3 _ _ (upd_same (H := upd H l1 (.lst (rgV 0 16))) (a := tw) (o := .tup (rgV 0 16))))
    have hm := upd_same (H := upd (upd (upd H l1 (.lst (rgV 0 16))) tw (.tup (rgV 0 16))) l2 (.lst (rgV 0 17))) (a := tm) (o := .tup (rgV 0 17))
    have sm := ((s1.trans s2).trans s3).trans s4
    generalize upd (upd (upd (upd H l1 (.lst (rgV 0 16))) tw (.tup (rgV 0 16))) l2 (.lst (rgV 0 17))) tm (.tup (rgV 0 17)) = G at hw hm sm ⊢
    rw [show rgV 0 16 = (R 16).map V.int from rgV_R 16] at hw
    rw [show rgV 0 17 = (R 17).map V.int from rgV_R 17] at hm
    have ndW : Nd tw 1 400 G (.ref tw) := (Ek.tuple (m := 17) (ek_ints (R_small (by omega))) hw (by rw [List.length_map, R_len]; omega) (by omega)).mono (by omega) (by omega)
    have ndM : Nd tw 1 400 G (.ref tm) := (Ek.tuple (m := 17) (ek_ints (R_small (by omega))) hm (by rw [List.length_map, R_len]; omega) (by omega)).mono (by omega) (by omega)
    have hpw : G tw ≠ none := by
      rw [hw]
      intro z
      cases z
    clear s1 s2 s3 s4 nl1 nl2 ntw ntm
    -- the three lists
    have e1 : EvFL tw 8 _ [some (.ref tw), some (.ref tm), none] G := evf_cons (EvD.fine (ev_rep (K := K) (j := 16) (ev_var (i := 0) (v := .ref tw) rfl ndW) (by decide) (by decide)) (by omega) (by omega)) (evf_cons (EvD.fine (ev_rep (K := K) (j := 17) (ev_var (i := 0) (v := .ref tw) rfl ndW) (by decide) (by decide)) (by omega) (by omega))
      (evf_cons (EvD.fine (ev_tup (evl_cons (ev_var (i := 1) (v := .ref tm) rfl ndM) evl_nil) (by omega)) (by omega) (by omega))
      (evf_cons (EvD.fine (ev_rep (K := K) (j := 16) (ev_tup (evl_cons (ev_int (i := 0) (by decide) (by decide)) evl_nil) (by omega)) (by decide) (by decide)) (by omega) (by omega))
      (evf_cons (EvD.fine (ev_rep (K := K) (j := 17) (ev_tup (evl_cons (ev_int (i := 0) (by decide) (by decide)) evl_nil) (by omega)) (by decide) (by decide)) (by omega) (by omega))
      (evf_cons (EvD.fine (ev_tup (evl_cons (ev_tup (k := 0) (c := 20) evl_nil (by omega)) evl_nil) (by omega)) (by omega) (by omega))
      (evf_cons (EvD.fine (ev_tup (k := 0) (c := 20) evl_nil (by omega)) (by omega) (by omega))
      (evf_cons (EvD.fine (ev_tup (evl_cons (EvD.mono (k' := 1) (c' := 100) (ev_tup (evl_cons (ev_int (i := 0) (by decide) (by decide)) evl_nil) (by omega)) (by omega) (by omega)) (evl_cons (EvD.mono (k' := 1) (c' := 100) (ev_tup (evl_cons (ev_int (i := 0) (by decide) (by decide)) (evl_cons (ev_int (i := 1) (by decide) (by decide)) evl_nil)) (by omega)) (by omega) (by omega)) evl_nil)) (by omega)) (by omega) (by omega))
      evf_nil)))))))
    refine use_set e1 (Same.refl G) (by omega) (fun G1 xs1 la sg1 fine1 len1 hla => ?_)
    have e2 : EvFL tw 11 _ [some (.ref tw), some (.ref tm), some (.ref la)] G := (evf_cons (EvD.fine (ev_tup (evl_cons (ev_tup (evl_cons (ev_int (i := 0) (by decide) (by decide)) (evl_cons (ev_int (i := 1) (by decide) (by decide)) evl_nil)) (by omega)) (evl_cons (ev_tup (evl_cons (ev_int (i := 1) (by decide) (by decide)) (evl_cons (ev_int (i := 0) (by decide) (by decide)) evl_nil)) (by omega)) evl_nil)) (by omega)) (by omega) (by omega))
        (evf_cons (EvD.fine ev_none (by omega) (by omega))
        (evf_cons (EvD.fine (ev_bool (b := true)) (by omega) (by omega))
        (evf_cons (EvD.fine (ev_int (i := 0) (by decide) (by decide)) (by omega) (by omega))
        (evf_cons (EvD.fine (ev_text (x := "") (by decide +kernel)) (by omega) (by omega))
        (evf_cons (EvD.fine (ev_lst (k := 0) (c := 20) hpw evl_nil (by omega)) (by omega) (by omega))
        (evf_cons (ev_dict hpw)
        (evf_cons (EvD.fine (ev_lst hpw (evl_cons (ev_tup (evl_cons (ev_int (i := 0) (by decide) (by decide)) evl_nil) (by omega)) evl_nil) (by omega)) (by omega) (by omega))
        (evf_cons (EvD.fine (ev_tup (evl_cons (EvD.mono (k' := 1) (c' := 100) (ev_tup (evl_cons (ev_int (i := 0) (by decide) (by decide)) evl_nil) (by omega)) (by omega) (by omega)) (evl_cons (EvD.mono (k' := 1) (c' := 100) ev_none (by omega) (by omega)) evl_nil)) (by omega)) (by omega) (by omega))
        (evf_cons (EvD.fine (ev_tup (evl_cons (ev_int (i := 0) (by decide) (by decide)) evl_nil) (by omega)) (by omega) (by omega))
        (evf_cons (EvD.fine (ev_tup (evl_cons (EvD.mono (k' := 1) (c' := 100) (ev_tup (evl_cons (ev_int (i := 0) (by decide) (by decide)) evl_nil) (by omega)) (by omega) (by omega)) (evl_cons (EvD.mono (k' := 1) (c' := 100) (ev_lst hpw (evl_cons (ev_int (i := 0) (by decide) (by decide)) evl_nil) (by omega)) (by omega) (by omega)) evl_nil)) (by omega)) (by omega) (by omega))
        evf_nil)))))))))))
    refine use_setcat e2 sg1 (by omega) rfl hla (by omega) fine1 (fun G2 xs2 lb sg2 fine2 len2 hlb => ?_)
    have e3 : EvFL tw 3 _ [some (.ref tw), some (.ref tm), some (.ref lb)] G := (evf_cons (EvD.fine (ev_tup (evl_cons (ev_tup (evl_cons (ev_bool (b := true)) evl_nil) (by omega)) evl_nil) (by omega)) (by omega) (by omega))
        (evf_cons (EvD.fine (ev_tup (evl_cons (ev_tup (evl_cons (ev_int (i := 1) (by decide) (by decide)) evl_nil) (by omega)) evl_nil) (by omega)) (by omega) (by omega))
        (evf_cons (EvD.fine (ev_tup (evl_cons (ev_tup (evl_cons (ev_int (i := 0) (by decide) (by decide)) (evl_cons (ev_int (i := 0) (by decide) (by decide)) evl_nil)) (by omega)) evl_nil) (by omega)) (by omega) (by omega))
        evf_nil)))
    refine use_retcat e3 (sg1.trans sg2) (by omega) rfl hlb (by omega) fine2 (fun G3 xs3 lc sg3 fine3 len3 hlc => ?_)
    exact q G3 lc tw xs3 (((sm.trans sg1).trans sg2).trans sg3) hlc fine3 (by omega)
end
end SL

namespace SL
open PySem PySem.Spec PyProof.Rows L2
abbrev nRight : List Str := ["_law_pot_here", "_law_turn", "_law_size", "_law_thing", "_law_one", "_law_again"]
theorem scRight : FnScope nRight ["_law_pot_here"] (defScope sRight) := ⟨rfl, rfl, rfl, by decide +kernel, rfl, by decide +kernel, by decide +kernel⟩
/-- probe orders at these addresses -/
def Prs (n : Nat) (H : Hp) (ts : List Addr) : Prop := ∀ t ∈ ts, ∃ ns : List Int, H t = some (.tup (ns.map V.int)) ∧ ns.Perm (R n)
theorem Prs.keep {n : Nat} {H H' : Hp} {ts : List Addr} (h : Prs n H ts) (k : Tk H H') : Prs n H' ts := fun t ht => by
  obtain ⟨ns, a, b⟩ := h t ht
  exact ⟨ns, k _ _ a, b⟩
theorem Prs.data {p : Addr} {n : Nat} {H : Hp} (n1 : n ≤ 16) : ∀ {ts : List Addr}, Prs n H ts → ∃ ds, DtAll p H (ts.map V.ref) ds ∧ (∀ x ∈ ds, IsP n x) ∧ fwAll ds = true
  | [], _ => ⟨[], .nil, fun x hx => (by cases hx), by simp [fwAll]⟩
  | t :: ts, h => by
    obtain ⟨ns, a, b⟩ := h t List.mem_cons_self
    obtain ⟨ds, e, f, g⟩ := Prs.data (p := p) n1 (ts := ts) fun u hu => h u (List.mem_cons_of_mem _ hu)
    refine ⟨.tuple (ns.map PyData.int) :: ds, .cons (.tup a (dt_ints ns)) e, fun x hx => ?_, ?_⟩
    · rcases List.mem_cons.mp hx with z | z
      · rw [z]
        exact ⟨ns, rfl, b⟩
      · exact f x z
    · have flat : ∀ ms : List Int, fwAll (ms.map PyData.int) = true := fun ms => by
        induction ms with
        | nil => simp [fwAll]
        | cons m ms ih => simp [fwAll, fw, ih]
      have len : ns.length = n := by rw [b.length_eq, R_len]
      simp only [fwAll, fw, flat, g, Bool.and_true]
      refine decide_eq_true ?_
      rw [List.length_map]
      omega
theorem Prs.nt {n : Nat} {H : Hp} {ts : List Addr} {T : Addr} (n1 : n ≤ 16) (h : Prs n H ts) (hT : H T = some (.tup (ts.map V.ref))) (l : ts.length ≤ 16) : Nt H 2 (.ref T) := by
  refine .tup hT (by rw [List.length_map]; exact l) fun x hx => ?_
  obtain ⟨t, ht, rfl⟩ := List.mem_map.mp hx
  obtain ⟨ns, a, b⟩ := h t ht
  have len : ns.length = n := by rw [b.length_eq, R_len]
  refine .tup a (by rw [List.length_map]; omega) fun y hy => ?_
  obtain ⟨i, hi, rfl⟩ := List.mem_map.mp hy
  have := R_mem.mp (b.mem_iff.mp hi)
  exact .int (by omega) (by omega)
section
variable {P : Program} {w : World} {K : PySem.W.Frag} {mg : Str → Option Value} {base : Heap}
def spRight : Sp := fun vs H Q _ => ∃ p : Addr, vs = [.ref p] ∧ Pot H p 10000 ∧ ∀ H' : Hp, Kp p H H' → Q (.bl true) H'
theorem ok_right {f : Addr} {fd : FuncData} {k : Nat} (F : Fun K "_law_right" "_law_right" sRight f fd) (T : Defs K mg) : FnG P w K mg base (k + 7) f fd ["_law_pot_here"] spRight := by
  obtain ⟨fA, fdA, FA, bA, gA⟩ := T.asked
  obtain ⟨fT, fdT, FT, bT, gT⟩ := T.take
  obtain ⟨fP, fdP, FP, bP, gP⟩ := T.pick
  obtain ⟨fM, fdM, FM, bM, gM⟩ := T.mixed
  obtain ⟨fL, fdL, FL, bL, gL⟩ := T.line
  obtain ⟨fR, fdR, FR, bR, gR⟩ := T.probe
  obtain ⟨fO, fdO, FO, bO, gO⟩ := T.odd
  obtain ⟨fB, fdB, FB, bB, gB⟩ := T.bent
  obtain ⟨fC, fdC, FC, bC, gC⟩ := T.probes
  have GA : FnG P w K mg base (k + 4) fA fdA ["_law_thing"] spAsked := ok_asked FA T
  have GT : FnOk P w K mg base CX0 (k + 1) fT fdT ["_law_pot_here", "_law_size"] spTake := ok_take FT
  have GR : FnOk P w K mg base CX0 (k + 3) fR fdR ["_law_pot_here", "_law_size"] spProbe := ok_probe FR FT bT gT FM bM gM FL bL gL T.zLen T.zList T.zTuple T.zRange
  have GB : FnOk P w K mg base CX0 (k + 6) fB fdB ["_law_pot_here", "_law_thing", "_law_depth"] (spBent 2) := ok_bent (k := k) FB bB gB ⟨T.zIsinstance, T.zInt, T.zTuple, T.zList, T.zStr, T.zLen⟩ FO bO gO FP bP gP FT bT gT 2 (by decide)
  have GC : FnOk P w K mg base CX0 (k + 3) fC fdC ["value"] spProbes := ok_probes FC T
  have kbC : KBinds K fdC ["value"] ["value"] oneK oneK := by
    obtain ⟨oc, od, kV, doc, pm, an, cdv, ct, osl, e, look, code⟩ := FC.ex
    exact kb_one (x := "value") (fun a => by rw [e]; rfl)
  refine fnG_mk F scRight (fun vs H Q E h => ?_) (fun cdv A outer s H vs Q E hgd hr h => ?_)
  · obtain ⟨p, rfl, _⟩ := h
    rfl
  · obtain ⟨p, rfl, hp, q⟩ := h
    have hr4 : Room (k + 4) _ := hr.mono (by omega)
    have hr3 : Room (k + 3) _ := hr.mono (by omega)
    have hr1 : Room (k + 1) _ := hr.mono (by omega)
    refine ⟨_, pss_cons (ps_for PassesOwn.never rfl (pi_range1 rfl T.zRange (pa_cons pe_int pa_nil)) (pg_name (i := 1) scRight.nd rfl (Or.inl rfl))
        (pss_cons (ps_set (i := 2) scRight.nd rfl (.inr rfl) (pe_op op_add pe_int (pe_call GT hr1 (by rfl) gT FT.kp bT .nil pass0 (pa_cons (pv 0) (pa_cons pe_int pa_nil)))))
        (pss_cons (ps_set (i := 3) scRight.nd rfl (.inr rfl) (pe_callTy call_tuple_of (by rfl) T.zTuple (by decide +kernel) (pa_cons
            (pe_lc (own := [("_law_one", 4)]) (g := gName 4) (tt := tYes) rfl scRight.nd (pi_range1 rfl T.zRange (pa_cons (pe_op op_add pe_int (pe_call GT hr1 (by rfl) gT FT.kp bT .nil pass0 (pa_cons (pv 0) (pa_cons pe_int pa_nil)))) pa_nil))
              (blkOk_by (own := [("_law_one", 4)]) (N := nRight) (sc := defScope sRight) (by decide +kernel))
              (fun _ _ _ _ _ => pg_name (i := 4) scRight.nd rfl (Or.inl rfl)) (fun _ _ _ _ _ => pts_nil) (fun _ _ _ _ _ => pe_call GR hr3 (by rfl) gR FR.kp bR .nil pass0 (pa_cons (pv 0) (pa_cons (pv 2) pa_nil)))) pa_nil)))
        (pss_cons (ps_if (PW.pt (pw_or (pt_cmpR op_notBl (pe_callK0 GC hr3 (by rfl) gC FC.kp kbC pass0 (pk_cons (pv 3) pk_nil)) pe_bl (nomark _))
            (pw_or1 (pt_not (pt_val (pe_callG GA hgd hr4 (by rfl) gA FA.kp bA (pa_cons (pv 3) pa_nil))))))) (pss_one (ps_ret pe_bl)) pss_nil)
        (pss_one (ps_if (pt_not (pt_val (pe_callB (cr_all rfl) (by rfl) T.zAll (by decide +kernel) (pa_cons (pe_lc (own := [("_law_again", 5)]) (g := gName 5) (tt := tYes) rfl scRight.nd (pi_range1 rfl T.zRange (pa_cons pe_int pa_nil))
              (blkOk_by (own := [("_law_again", 5)]) (N := nRight) (sc := defScope sRight) (by decide +kernel)) (fun _ _ _ _ _ => pg_name (i := 5) scRight.nd rfl (Or.inl rfl)) (fun _ _ _ _ _ => pts_nil)
              (fun _ _ _ _ _ => pe_callG GA hgd hr4 (by rfl) gA FA.kp bA (pa_cons (pe_call GB hr (by rfl) gB FB.kp bB .nil pass0 (pa_cons (pv 0) (pa_cons (pv 3) (pa_cons pe_int pa_nil)))) pa_nil))) pa_nil)))) (pss_one (ps_ret pe_bl)) pss_nil))))))
      (pss_one (ps_ret pe_bl)), ?_⟩
    refine ⟨4, rfl, by decide, by decide, for_range (lo := 0) (n := (4 : Int).toNat) (fun i σ G1 => i ≤ 4 ∧ (∃ y1 y2 y3 y4 y5, σ = [some (.ref p), y1, y2, y3, y4, y5]) ∧ Pot G1 p (2000 * (4 - i)) ∧ Kp p H G1) ?_ ?_ ?_⟩
    · exact ⟨by omega, ⟨_, _, _, _, _, rfl⟩, hp.less (by omega), Kp.refl p H⟩
    · rintro i σ G1 hi ⟨i4, ⟨y1, y2, y3, y4, y5, rfl⟩, pot1, kp1⟩
      have lt4 : i < 4 := hi
      -- size
      refine ⟨.ref p, rfl, p, 16, 2000 * (3 - i) + 1900, rfl, pot1.less (by omega), by decide, by decide, fun G2 r kp2 pot2 r0 r1 => ?_⟩
      obtain ⟨m, rfl⟩ : ∃ m : Nat, r = m := ⟨r.toNat, by omega⟩
      refine ⟨1, m, rfl, rfl, ?_⟩
      have n0 : 0 < 1 + m := by omega
      have n1 : 1 + m ≤ 16 := by omega
      -- the probes
      refine ⟨.ref p, rfl, p, 16, 2000 * (3 - i) + 1800, rfl, pot2.less (by omega), by decide, by decide, fun G3 r2 kp3 pot3 r20 r21 => ?_⟩
      obtain ⟨m2, rfl⟩ : ∃ m2 : Nat, r2 = m2 := ⟨r2.toNat, by omega⟩
      refine ⟨1, m2, rfl, rfl, (((1 + m2 : Nat) : Int)), rfl, by omega, by omega, fun D nD => ?_⟩
      have nDp : D ≠ p := pot_ne pot3 nD
      have eN : (((1 + m2 : Nat) : Int)).toNat = 1 + m2 := by omega
      refine lc_range (lo := 0) (n := (((1 + m2 : Nat) : Int)).toNat) (fun j G4 => ∃ ts : List Addr, G4 D = some (.lst (ts.map V.ref)) ∧ ts.length = j ∧ j ≤ 1 + m2 ∧ Prs (1 + m) G4 ts ∧ Kp p G3 G4 ∧ Pot G4 p (2000 * (3 - i) + 200 + 70 * (1 + m2 - j))) ?_ ?_ ?_
      · exact ⟨[], upd_same, rfl, by omega, fun x hx => (by cases hx), Kp.same (same_new nD), (pot3.same (same_new nD)).less (by omega)⟩
      · rintro j G4 hj ⟨ts, hD, lenT, j8, prs, kp4, pot4⟩
        have lt8 : j < 1 + m2 := by omega
        refine ⟨rfl, .ref p, rfl, _, rfl, p, 1 + m, 2000 * (3 - i) + 200 + 70 * (1 + m2 - (j + 1)), rfl, pot4.less (by omega), n0, by omega, fun G5 t ns kp5 pot5 nt ht perm => ?_⟩
        have hD5 : G5 D = some (.lst (ts.map V.ref)) := kp5 _ _ nDp hD
        obtain ⟨px, hpx⟩ := pot4.lst
        have tk5 : Tk G4 G5 := kp5.tk hpx
        have tkD : Tk G5 (upd G5 D (.lst (ts.map V.ref ++ [.ref t]))) := fun c zs e => by
          rw [upd_ne (fun z => by rw [z, hD5] at e; cases e)]
          exact e
        refine ⟨_, hD5, ?_, ts ++ [t], ?_, ?_, by omega, fun u hu => ?_, fun b o nb hb => ?_, ?_⟩
        · rw [List.length_map]
          exact small1000 (by omega)
        · rw [upd_same, List.map_append]
          rfl
        · rw [List.length_append, lenT]
          rfl
        · rcases List.mem_append.mp hu with z | z
          · exact ((prs.keep tk5).keep tkD) u z
          · rw [List.mem_singleton.mp z]
            exact ⟨ns, tkD _ _ ht, perm⟩
        · rw [upd_ne (ne_of_none hb nD)]
          exact kp5 _ _ nb (kp4 _ _ nb hb)
        · obtain ⟨a1, a2, a3, z1, z2⟩ := pot5
          exact ⟨a1, a2, a3, by rw [upd_ne nDp.symm]; exact z1, z2⟩
      · rintro G4 ⟨ts, hD, lenT, _, prs, kp4, pot4⟩
        rw [eN] at lenT
        refine ⟨D, _, rfl, .inl ⟨SqL.of hD, fun tT ntT => ?_⟩⟩
        have s5 := same_new (o := .tup (ts.map V.ref)) ntT
        have hT : upd G4 tT (.tup (ts.map V.ref)) tT = some (.tup (ts.map V.ref)) := upd_same
        have prs5 := prs.keep (Same.tk s5)
        have pot5 := pot4.same s5
        have kp5 : Kp p H (upd G4 tT (.tup (ts.map V.ref))) := (((kp1.trans kp2).trans kp3).trans kp4).trans (Kp.same s5)
        generalize upd G4 tT (.tup (ts.map V.ref)) = G5 at hT prs5 pot5 kp5 ⊢
        have nt5 : Nt G5 2 (.ref tT) := prs5.nt n1 hT (by omega)
        obtain ⟨ds, al, isp, fws⟩ := prs5.data (p := p) n1
        have lends : ds.length = ts.length := by rw [← al.len, List.length_map]
        have isPs : IsPs (.tuple ds) := by
          have pos : 0 < ds.length := by omega
          obtain ⟨ns, e0, pm⟩ := isp ds[0] (List.getElem_mem pos)
          have ln : ns.length = 1 + m := by rw [pm.length_eq, R_len]
          refine ⟨ds, ns.map PyData.int, rfl, by omega, by rw [List.getElem?_eq_getElem pos, e0], ?_, ?_, fun x hx => ?_⟩
          · rw [List.length_map]; omega
          · rw [List.length_map]; omega
          · rw [List.length_map, ln]
            exact isp x hx
        have fwT : fw (.tuple ds) = true := by
          simp only [fw, fws, Bool.and_true]
          exact decide_eq_true (by omega)
        -- are_probes(value=..)
        refine ⟨.ref tT, rfl, p, .ref tT, .tuple ds, rfl, .dat (.tup hT al), fwT, fun b G6 sm6 ib => ?_⟩
        have eb : b = true := ib.mpr isPs
        subst eb
        refine ⟨true, true, rfl, rfl, _, rfl, ?_⟩
        have cb2 : cb 2 ≤ 10000000 := by decide
        have nt6 : Nt G6 2 (.ref tT) := nt5.keep (Same.tk sm6)
        refine ⟨.ref tT, rfl, p, .ref tT, rfl, nt6.nd.fine (by omega) cb2, fun G7 sm7 => ⟨_, rfl, ?_⟩⟩
        have nt7 : Nt G7 2 (.ref tT) := nt6.keep (Same.tk sm7)
        have pot7 := pot5.same (sm6.trans sm7)
        have kp7 := kp5.trans (Kp.same (sm6.trans sm7))
        -- all([..])
        refine ⟨10, rfl, by decide, by decide, fun D2 nD2 => ?_⟩
        have nD2p : D2 ≠ p := pot_ne pot7 nD2
        refine lc_range (lo := 0) (n := (10 : Int).toNat) (fun j G8 => j ≤ 10 ∧ Kp p G7 G8 ∧ G8 D2 = some (.lst ((List.replicate j true).map V.bl)) ∧ Pot G8 p (2000 * (3 - i) + 7 * (10 - j))) ⟨by omega, Kp.same (same_new nD2), upd_same, (pot7.same (same_new nD2)).less (by omega)⟩ ?_ ?_
        · rintro j G8 hj ⟨_, kp8, hD8, pot8⟩
          have lt10 : j < 10 := hj
          obtain ⟨px, hpx⟩ := pot7.lst
          refine ⟨rfl, .ref p, rfl, .ref tT, rfl, p, .ref tT, 2, 2000 * (3 - i) + 7 * (10 - (j + 1)), rfl, nt7.keep (kp8.tk hpx), pot8.less (by omega), fun G9 x kp9 pot9 nd => ?_⟩
          have bb2 : bb 2 ≤ 10000000 := by decide
          refine ⟨p, x, rfl, nd.fine (by omega) bb2, fun G10 sm10 => ?_⟩
          refine ⟨_, sm10 _ _ (kp9 _ _ nD2p hD8), ?_, by omega, fun b o nb hb => ?_, ?_, ?_⟩
          · rw [List.length_map, List.length_replicate]
            exact small1000 (by omega)
          · rw [upd_ne (ne_of_none hb nD2)]
            exact sm10 _ _ (kp9 _ _ nb (kp8 _ _ nb hb))
          · rw [upd_same, List.replicate_succ', List.map_append]
            rfl
          · obtain ⟨a1, a2, a3, z1, z2⟩ := pot9.same sm10
            exact ⟨a1, a2, a3, by rw [upd_ne nD2p.symm]; exact z1, z2⟩
        · rintro G8 ⟨_, kp8, hD8, pot8⟩
          refine ⟨D2, _, rfl, SqL.of hD8, _, rfl, ?_⟩
          rw [show (List.replicate _ true).all id = true by simp]
          exact ⟨by omega, ⟨_, _, _, _, _, rfl⟩, pot8.less (by omega), kp7.trans kp8⟩
    · rintro σ G1 ⟨_, ⟨y1, y2, y3, y4, y5, rfl⟩, pot1, kp1⟩
      exact q G1 kp1
end
end SL

namespace SL
open PySem PySem.Spec PyProof.Rows L2
abbrev nLaw : List Str := ["_law_script", "_law_thing", "_law_k"]
theorem scLaw : FnScope nLaw ["_law_script"] (defScope sLaw) := ⟨rfl, rfl, rfl, by decide +kernel, rfl, by decide +kernel, by decide +kernel⟩
section
variable {P : Program} {w : World} {K : PySem.W.Frag} {mg : Str → Option Value} {base : Heap}
def spLaw (K : PySem.W.Frag) : Sp := fun vs H Q _ => ∃ (a : Addr) (ns : List Int), vs = [.ref a] ∧ SqL K H a (ns.map V.int) ∧ ns.length ≤ 63 ∧ ∀ H' : Hp, Q (.bl true) H'
theorem ok_law {f : Addr} {fd : FuncData} (F : Fun K "law" "law" sLaw f fd) (T : Defs K mg) : FnG P w K mg base 8 f fd ["_law_script"] (spLaw K) := by
  obtain ⟨fR, fdR, FR, bR, gR⟩ := T.right
  obtain ⟨fP, fdP, FP, bP, gP⟩ := T.pot
  obtain ⟨fA, fdA, FA, bA, gA⟩ := T.asked
  obtain ⟨fH, fdH, FH, bH, gH⟩ := T.byHand
  have GR : FnG P w K mg base 7 fR fdR ["_law_pot_here"] spRight := ok_right (k := 0) FR T
  have GA : FnG P w K mg base 4 fA fdA ["_law_thing"] spAsked := ok_asked (k := 0) FA T
  have GP : FnOk P w K mg base CX0 1 fP fdP ["_law_script", "_law_k"] (spPot K) := ok_pot FP T.zLen T.zAbs
  have GH : FnOk P w K mg base CX0 1 fH fdH [] spByHand := ok_byHand FH T
  refine fnG_mk F scLaw (fun vs H Q E h => ?_) (fun cdv A outer s H vs Q E hgd hr h => ?_)
  · obtain ⟨a, ns, rfl, _⟩ := h
    rfl
  · obtain ⟨a, ns, rfl, hS, few, q⟩ := h
    refine ⟨_, pss_cons (ps_if (pt_not (pt_val (pe_callB (cr_all rfl) (by rfl) T.zAll (by decide +kernel) (pa_cons (pe_lc (own := [("_law_thing", 1)]) (g := gName 1) (tt := tYes) rfl scLaw.nd (pi_list (pe_call0 GH (hr.mono (by omega)) (by rfl) gH FH.kp bH .nil pass0))
        (blkOk_by (own := [("_law_thing", 1)]) (N := nLaw) (sc := defScope sLaw) (by decide +kernel)) (fun _ _ _ _ _ => pg_name (i := 1) scLaw.nd rfl (Or.inl rfl)) (fun _ _ _ _ _ => pts_nil)
        (fun _ _ _ _ _ => pe_callG GA hgd (hr.mono (by omega)) (by rfl) gA FA.kp bA (pa_cons (pv 1) pa_nil))) pa_nil)))) (pss_one (ps_ret pe_bl)) pss_nil)
      (pss_one (ps_ret (pe_callB (cr_all rfl) (by rfl) T.zAll (by decide +kernel) (pa_cons (pe_lc (own := [("_law_k", 2)]) (g := gName 2) (tt := tYes) rfl scLaw.nd
      (pi_range1 rfl T.zRange (pa_cons (pe_callB (call_max2 rfl) (by rfl) T.zMax (by decide +kernel) (pa_cons pe_int (pa_cons (pe_callB (call_min2 rfl) (by rfl) T.zMin (by decide +kernel) (pa_cons pe_int (pa_cons (pe_callB call_len_seq (by rfl) T.zLen PySem.boot_len (pa_cons (pv 0) pa_nil)) pa_nil))) pa_nil))) pa_nil))
      (blkOk_by (own := [("_law_k", 2)]) (N := nLaw) (sc := defScope sLaw) (by decide +kernel)) (fun _ _ _ _ _ => pg_name (i := 2) scLaw.nd rfl (Or.inl rfl)) (fun _ _ _ _ _ => pts_nil)
      (fun _ _ _ _ _ => pe_callG GR hgd hr (by rfl) gR FR.kp bR (pa_cons (pe_call GP (hr.mono (by omega)) (by rfl) gP FP.kp bP .nil pass0 (pa_cons (pv 0) (pa_cons (pv 2) pa_nil))) pa_nil))) pa_nil)))), ?_⟩
    refine ⟨rfl, fun H0 lh p xs sm0 hl fine len => ⟨lh, rfl, ⟨_, SqL.of hl⟩, fun D1 nD1 => ?_⟩⟩
    refine lc_list (K := K) (a := lh) (xs := xs) (fun j G9 => Same H0 G9 ∧ G9 D1 = some (.lst ((List.replicate j true).map V.bl))) ⟨same_new nD1, upd_same⟩ (fun j G9 _ h => SqL.of (h.1 _ _ hl)) ?_ ?_
    · rintro j x G9 hx ⟨sm9, hD9⟩
      have hj : j < xs.length := (List.getElem?_eq_some_iff.mp hx).1
      refine ⟨rfl, x, rfl, p, x, rfl, (fine x (List.mem_of_getElem? hx)).same sm9, fun G10 sm10 => ?_⟩
      refine ⟨_, sm10 _ _ hD9, ?_, fun b o hb => ?_, ?_⟩
      · rw [List.length_map, List.length_replicate]
        exact small1000 (by omega)
      · rw [upd_ne (ne_of_none hb nD1)]
        exact sm10 _ _ (sm9 _ _ hb)
      · rw [upd_same, List.replicate_succ', List.map_append]
        rfl
    rintro H1 ⟨sm1, hD1⟩
    refine ⟨D1, _, rfl, SqL.of hD1, _, rfl, ?_⟩
    rw [show (List.replicate _ true).all id = true by simp]
    have hS1 : SqL K H1 a (ns.map V.int) := (sm0.trans sm1).seq hS
    refine ⟨.ref a, rfl, a, _, rfl, .inl hS1, 3, _, rfl, 1, _, rfl, _, rfl, ?_, ?_, fun D nD => ?_⟩
    · split <;> omega
    · split <;> (try split) <;> omega
    have top : ∀ m : Int, (if (if m < 3 then m else 3) > 1 then (if m < 3 then m else 3) else 1).toNat ≤ 3 := fun m => by
      split <;> (try split) <;> omega
    refine lc_range (lo := 0) (n := _) (fun j G => Same H1 G ∧ G D = some (.lst ((List.replicate j true).map V.bl))) ⟨same_new nD, upd_same⟩ ?_ ?_
    · rintro j G hj ⟨sm, hD⟩
      have j3 : j < 3 := Nat.lt_of_lt_of_le hj (top _)
      refine ⟨rfl, .ref a, rfl, _, rfl, a, ns, 0 + j, rfl, sm.seq hS1, by omega, fun G1 p sm1 np pot => ?_⟩
      refine ⟨p, rfl, pot.less (by omega), fun G2 kp => ?_⟩
      have nDp : D ≠ p := ne_of_none hD np
      refine ⟨_, kp _ _ nDp (sm1 _ _ hD), ?_, fun b o hb => ?_, ?_⟩
      · rw [List.length_map, List.length_replicate]
        exact small1000 (by omega)
      · have nbp : b ≠ p := ne_of_none (sm _ _ hb) np
        rw [upd_ne (ne_of_none hb nD)]
        exact kp _ _ nbp (sm1 _ _ (sm _ _ hb))
      · rw [upd_same, List.replicate_succ', List.map_append]
        rfl
    · rintro G ⟨sm, hD⟩
      refine ⟨D, _, rfl, SqL.of hD, ?_⟩
      rw [show (List.replicate _ true).all id = true by simp]
      exact q G
end
/-! ### what the top has left -/
theorem all_mk {l : PySem.W.OpenLaw} {w : World} {K : PySem.W.Frag} {h : Heap} {mg : Str → Option Value} {fa : Addr} (X : K.In h) (G : h.Ns mainGlobals mg) (hfa : mg "law" = some (.ref fa))
    {f1 f2 f3 f4 f5 f6 f7 f8 f9 f10 f11 f12 f13 f14 f15 f16 f17 f18 f19 : Addr} {od1 an1 od2 an2 od3 an3 od4 an4 od5 an5 od6 an6 od7 an7 od8 an8 od9 an9 od10 an10 od11 an11 od12 an12 od13 an13 od14 an14 od15 an15 od16 an16 od17 an17 od18 an18 od19 an19 : Option Addr} {sl1 sl2 sl3 sl4 sl5 sl6 sl7 sl8 sl9 sl10 sl11 sl12 sl13 sl14 sl15 sl16 sl17 sl18 sl19 : Array (Option Value)} {oc1 kV1 dc1 pm1 cd1 ct1 oc2 kV2 dc2 pm2 cd2 ct2 oc3 kV3 dc3 pm3 cd3 ct3 oc4 kV4 dc4 pm4 cd4 ct4 oc5 kV5 dc5 pm5 cd5 ct5 oc6 kV6 dc6 pm6 cd6 ct6 oc7 kV7 dc7 pm7 cd7 ct7 oc8 kV8 dc8 pm8 cd8 ct8 oc9 kV9 dc9 pm9 cd9 ct9 oc10 kV10 dc10 pm10 cd10 ct10 oc11 kV11 dc11 pm11 cd11 ct11 oc12 kV12 dc12 pm12 cd12 ct12 oc13 kV13 dc13 pm13 cd13 ct13 oc14 kV14 dc14 pm14 cd14 ct14 oc15 kV15 dc15 pm15 cd15 ct15 oc16 kV16 dc16 pm16 cd16 ct16 oc17 kV17 dc17 pm17 cd17 ct17 oc18 kV18 dc18 pm18 cd18 ct18 oc19 kV19 dc19 pm19 cd19 ct19 : Value} {tm : Tok}
    (a1 : PySem.W.nsIn K mainGlobals "is_integer_within" = some (some (.ref f1))) (l1 : K.lookup f1 = some ⟨oc1, od1, .func (PySem.W.fnOf "is_integer_within" "is_integer_within" (defArgs sWithin) (defBody sWithin) (defScope sWithin) .none kV1 dc1 pm1 an1 cd1 ct1), sl1⟩) (c1 : PySem.W.codeIn K cd1 "is_integer_within" = true) (k1 : PySem.W.keepIn K (.ref f1) = true)
    (a2 : PySem.W.nsIn K mainGlobals "is_probe_order" = some (some (.ref f2))) (l2 : K.lookup f2 = some ⟨oc2, od2, .func (PySem.W.fnOf "is_probe_order" "is_probe_order" (defArgs sOrder) (defBody sOrder) (defScope sOrder) .none kV2 dc2 pm2 an2 cd2 ct2), sl2⟩) (c2 : PySem.W.codeIn K cd2 "is_probe_order" = true) (k2 : PySem.W.keepIn K (.ref f2) = true)
    (a3 : PySem.W.nsIn K mainGlobals "are_probes" = some (some (.ref f3))) (l3 : K.lookup f3 = some ⟨oc3, od3, .func (PySem.W.fnOf "are_probes" "are_probes" (defArgs sProbes) (defBody sProbes) (defScope sProbes) .none kV3 dc3 pm3 an3 cd3 ct3), sl3⟩) (c3 : PySem.W.codeIn K cd3 "are_probes" = true) (k3 : PySem.W.keepIn K (.ref f3) = true)
    (a4 : PySem.W.nsIn K mainGlobals "is_sized" = some (some (.ref f4))) (l4 : K.lookup f4 = some ⟨oc4, od4, .func (PySem.W.fnOf "is_sized" "is_sized" (defArgs sSized) (defBody sSized) (defScope sSized) .none kV4 dc4 pm4 an4 cd4 ct4), sl4⟩) (c4 : PySem.W.codeIn K cd4 "is_sized" = true) (k4 : PySem.W.keepIn K (.ref f4) = true)
    (a5 : PySem.W.nsIn K mainGlobals "_law_pot" = some (some (.ref f5))) (l5 : K.lookup f5 = some ⟨oc5, od5, .func (PySem.W.fnOf "_law_pot" "_law_pot" (defArgs sPot) (defBody sPot) (defScope sPot) .none kV5 dc5 pm5 an5 cd5 ct5), sl5⟩) (c5 : PySem.W.codeIn K cd5 "_law_pot" = true) (k5 : PySem.W.keepIn K (.ref f5) = true)
    (a6 : PySem.W.nsIn K mainGlobals "_law_take" = some (some (.ref f6))) (l6 : K.lookup f6 = some ⟨oc6, od6, .func (PySem.W.fnOf "_law_take" "_law_take" (defArgs sTake) (defBody sTake) (defScope sTake) .none kV6 dc6 pm6 an6 cd6 ct6), sl6⟩) (c6 : PySem.W.codeIn K cd6 "_law_take" = true) (k6 : PySem.W.keepIn K (.ref f6) = true)
    (a7 : PySem.W.nsIn K mainGlobals "_law_pick" = some (some (.ref f7))) (l7 : K.lookup f7 = some ⟨oc7, od7, .func (PySem.W.fnOf "_law_pick" "_law_pick" (defArgs sPick) (defBody sPick) (defScope sPick) .none kV7 dc7 pm7 an7 cd7 ct7), sl7⟩) (c7 : PySem.W.codeIn K cd7 "_law_pick" = true) (k7 : PySem.W.keepIn K (.ref f7) = true)
    (a8 : PySem.W.nsIn K mainGlobals "_law_mixed" = some (some (.ref f8))) (l8 : K.lookup f8 = some ⟨oc8, od8, .func (PySem.W.fnOf "_law_mixed" "_law_mixed" (defArgs sMixed) (defBody sMixed) (defScope sMixed) .none kV8 dc8 pm8 an8 cd8 ct8), sl8⟩) (c8 : PySem.W.codeIn K cd8 "_law_mixed" = true) (k8 : PySem.W.keepIn K (.ref f8) = true)
    (a9 : PySem.W.nsIn K mainGlobals "_law_line" = some (some (.ref f9))) (l9 : K.lookup f9 = some ⟨oc9, od9, .func (PySem.W.fnOf "_law_line" "_law_line" (defArgs sLine) (defBody sLine) (defScope sLine) .none kV9 dc9 pm9 an9 cd9 ct9), sl9⟩) (c9 : PySem.W.codeIn K cd9 "_law_line" = true) (k9 : PySem.W.keepIn K (.ref f9) = true)
    (a10 : PySem.W.nsIn K mainGlobals "_law_probe" = some (some (.ref f10))) (l10 : K.lookup f10 = some ⟨oc10, od10, .func (PySem.W.fnOf "_law_probe" "_law_probe" (defArgs sProbe) (defBody sProbe) (defScope sProbe) .none kV10 dc10 pm10 an10 cd10 ct10), sl10⟩) (c10 : PySem.W.codeIn K cd10 "_law_probe" = true) (k10 : PySem.W.keepIn K (.ref f10) = true)
    (a11 : PySem.W.nsIn K mainGlobals "_law_odd" = some (some (.ref f11))) (l11 : K.lookup f11 = some ⟨oc11, od11, .func (PySem.W.fnOf "_law_odd" "_law_odd" (defArgs sOdd) (defBody sOdd) (defScope sOdd) .none kV11 dc11 pm11 an11 cd11 ct11), sl11⟩) (c11 : PySem.W.codeIn K cd11 "_law_odd" = true) (k11 : PySem.W.keepIn K (.ref f11) = true)
    (a12 : PySem.W.nsIn K mainGlobals "_law_bent" = some (some (.ref f12))) (l12 : K.lookup f12 = some ⟨oc12, od12, .func (PySem.W.fnOf "_law_bent" "_law_bent" (defArgs sBent) (defBody sBent) (defScope sBent) .none kV12 dc12 pm12 an12 cd12 ct12), sl12⟩) (c12 : PySem.W.codeIn K cd12 "_law_bent" = true) (k12 : PySem.W.keepIn K (.ref f12) = true)
    (a13 : PySem.W.nsIn K mainGlobals "_law_is_number" = some (some (.ref f13))) (l13 : K.lookup f13 = some ⟨oc13, od13, .func (PySem.W.fnOf "_law_is_number" "_law_is_number" (defArgs sNumber) (defBody sNumber) (defScope sNumber) .none kV13 dc13 pm13 an13 cd13 ct13), sl13⟩) (c13 : PySem.W.codeIn K cd13 "_law_is_number" = true) (k13 : PySem.W.keepIn K (.ref f13) = true)
    (a14 : PySem.W.nsIn K mainGlobals "_law_is_probe" = some (some (.ref f14))) (l14 : K.lookup f14 = some ⟨oc14, od14, .func (PySem.W.fnOf "_law_is_probe" "_law_is_probe" (defArgs sIsProbe) (defBody sIsProbe) (defScope sIsProbe) .none kV14 dc14 pm14 an14 cd14 ct14), sl14⟩) (c14 : PySem.W.codeIn K cd14 "_law_is_probe" = true) (k14 : PySem.W.keepIn K (.ref f14) = true)
    (a15 : PySem.W.nsIn K mainGlobals "_law_due" = some (some (.ref f15))) (l15 : K.lookup f15 = some ⟨oc15, od15, .func (PySem.W.fnOf "_law_due" "_law_due" (defArgs sDue) (defBody sDue) (defScope sDue) .none kV15 dc15 pm15 an15 cd15 ct15), sl15⟩) (c15 : PySem.W.codeIn K cd15 "_law_due" = true) (k15 : PySem.W.keepIn K (.ref f15) = true)
    (a16 : PySem.W.nsIn K mainGlobals "_law_asked" = some (some (.ref f16))) (l16 : K.lookup f16 = some ⟨oc16, od16, .func (PySem.W.fnOf "_law_asked" "_law_asked" (defArgs sAsked) (defBody sAsked) (defScope sAsked) .none kV16 dc16 pm16 an16 cd16 ct16), sl16⟩) (c16 : PySem.W.codeIn K cd16 "_law_asked" = true) (k16 : PySem.W.keepIn K (.ref f16) = true)
    (a17 : PySem.W.nsIn K mainGlobals "_law_by_hand" = some (some (.ref f17))) (l17 : K.lookup f17 = some ⟨oc17, od17, .func (PySem.W.fnOf "_law_by_hand" "_law_by_hand" (defArgs sByHand) (defBody sByHand) (defScope sByHand) .none kV17 dc17 pm17 an17 cd17 ct17), sl17⟩) (c17 : PySem.W.codeIn K cd17 "_law_by_hand" = true) (k17 : PySem.W.keepIn K (.ref f17) = true)
    (a18 : PySem.W.nsIn K mainGlobals "_law_right" = some (some (.ref f18))) (l18 : K.lookup f18 = some ⟨oc18, od18, .func (PySem.W.fnOf "_law_right" "_law_right" (defArgs sRight) (defBody sRight) (defScope sRight) .none kV18 dc18 pm18 an18 cd18 ct18), sl18⟩) (c18 : PySem.W.codeIn K cd18 "_law_right" = true) (k18 : PySem.W.keepIn K (.ref f18) = true)
    (a19 : PySem.W.nsIn K mainGlobals "law" = some (some (.ref f19))) (l19 : K.lookup f19 = some ⟨oc19, od19, .func (PySem.W.fnOf "law" "law" (defArgs sLaw) (defBody sLaw) (defScope sLaw) .none kV19 dc19 pm19 an19 cd19 ct19), sl19⟩) (c19 : PySem.W.codeIn K cd19 "law" = true) (k19 : PySem.W.keepIn K (.ref f19) = true)
    (z0 : PySem.W.nsIn K mainGlobals "MOST" = some (some (.int 16 tm)))
    (z1 : PySem.W.nsIn K mainGlobals "isinstance" = some none)    (z2 : PySem.W.nsIn K mainGlobals "int" = some none)    (z3 : PySem.W.nsIn K mainGlobals "bool" = some none)    (z4 : PySem.W.nsIn K mainGlobals "tuple" = some none)
    (z5 : PySem.W.nsIn K mainGlobals "len" = some none)    (z6 : PySem.W.nsIn K mainGlobals "all" = some none)    (z7 : PySem.W.nsIn K mainGlobals "set" = some none)    (z8 : PySem.W.nsIn K mainGlobals "abs" = some none)
    (z9 : PySem.W.nsIn K mainGlobals "list" = some none)    (z10 : PySem.W.nsIn K mainGlobals "range" = some none)    (z11 : PySem.W.nsIn K mainGlobals "str" = some none)    (z12 : PySem.W.nsIn K mainGlobals "sorted" = some none)
    (z13 : PySem.W.nsIn K mainGlobals "repr" = some none)    (z14 : PySem.W.nsIn K mainGlobals "max" = some none)    (z15 : PySem.W.nsIn K mainGlobals "min" = some none) :
    ∃ fd : FuncData, (∀ (s : Shared) (v : Value), BindsTo s fd ⟨[v], []⟩ [("_law_script", v)]) ∧ ∀ base : Heap, K.In base → base.Ns mainGlobals mg → FnG l.prog w K mg base 8 fa fd ["_law_script"] (spLaw K) := by
  have e := hfa.symm.trans (PySem.W.mg_of X G a19)
  cases e
  have F1 := fun_mk (st := sWithin) l1 c1 k1
  have F2 := fun_mk (st := sOrder) l2 c2 k2
  have F3 := fun_mk (st := sProbes) l3 c3 k3
  have F4 := fun_mk (st := sSized) l4 c4 k4
  have F5 := fun_mk (st := sPot) l5 c5 k5
  have F6 := fun_mk (st := sTake) l6 c6 k6
  have F7 := fun_mk (st := sPick) l7 c7 k7
  have F8 := fun_mk (st := sMixed) l8 c8 k8
  have F9 := fun_mk (st := sLine) l9 c9 k9
  have F10 := fun_mk (st := sProbe) l10 c10 k10
  have F11 := fun_mk (st := sOdd) l11 c11 k11
  have F12 := fun_mk (st := sBent) l12 c12 k12
  have F13 := fun_mk (st := sNumber) l13 c13 k13
  have F14 := fun_mk (st := sIsProbe) l14 c14 k14
  have F15 := fun_mk (st := sDue) l15 c15 k15
  have F16 := fun_mk (st := sAsked) l16 c16 k16
  have F17 := fun_mk (st := sByHand) l17 c17 k17
  have F18 := fun_mk (st := sRight) l18 c18 k18
  have F19 := fun_mk (st := sLaw) l19 c19 k19
  have b1 := F1.binds (ps := ["value", "low", "high"]) fun _ _ _ _ _ _ us hl => match us, hl with | [_, _, _], _ => rfl
  have b2 := F2.binds (ps := ["count", "value"]) fun _ _ _ _ _ _ us hl => match us, hl with | [_, _], _ => rfl
  have b3 := F3.binds (ps := ["value"]) fun _ _ _ _ _ _ us hl => match us, hl with | [_], _ => rfl
  have b4 := F4.binds (ps := ["value"]) fun _ _ _ _ _ _ us hl => match us, hl with | [_], _ => rfl
  have b5 := F5.binds (ps := ["_law_script", "_law_k"]) fun _ _ _ _ _ _ us hl => match us, hl with | [_, _], _ => rfl
  have b6 := F6.binds (ps := ["_law_pot_here", "_law_size"]) fun _ _ _ _ _ _ us hl => match us, hl with | [_, _], _ => rfl
  have b7 := F7.binds (ps := ["_law_pot_here", "_law_some"]) fun _ _ _ _ _ _ us hl => match us, hl with | [_, _], _ => rfl
  have b8 := F8.binds (ps := ["_law_pot_here", "_law_some"]) fun _ _ _ _ _ _ us hl => match us, hl with | [_, _], _ => rfl
  have b9 := F9.binds (ps := ["_law_size", "_law_begin"]) fun _ _ _ _ _ _ us hl => match us, hl with | [_, _], _ => rfl
  have b10 := F10.binds (ps := ["_law_pot_here", "_law_size"]) fun _ _ _ _ _ _ us hl => match us, hl with | [_, _], _ => rfl
  have b11 := F11.binds (ps := ["_law_pot_here", "_law_part"]) fun _ _ _ _ _ _ us hl => match us, hl with | [_, _], _ => rfl
  have b12 := F12.binds (ps := ["_law_pot_here", "_law_thing", "_law_depth"]) fun _ _ _ _ _ _ us hl => match us, hl with | [_, _, _], _ => rfl
  have b13 := F13.binds (ps := ["_law_thing", "_law_below"]) fun _ _ _ _ _ _ us hl => match us, hl with | [_, _], _ => rfl
  have b14 := F14.binds (ps := ["_law_size", "_law_thing"]) fun _ _ _ _ _ _ us hl => match us, hl with | [_, _], _ => rfl
  have b15 := F15.binds (ps := ["_law_thing"]) fun _ _ _ _ _ _ us hl => match us, hl with | [_], _ => rfl
  have b16 := F16.binds (ps := ["_law_thing"]) fun _ _ _ _ _ _ us hl => match us, hl with | [_], _ => rfl
  have b17 := F17.binds (ps := []) fun _ _ _ _ _ _ us hl => match us, hl with | [], _ => rfl
  have b18 := F18.binds (ps := ["_law_pot_here"]) fun _ _ _ _ _ _ us hl => match us, hl with | [_], _ => rfl
  have T : Defs K mg := ⟨⟨_, _, F1, b1, PySem.W.mg_of X G a1⟩, ⟨_, _, F2, b2, PySem.W.mg_of X G a2⟩, ⟨_, _, F3, b3, PySem.W.mg_of X G a3⟩, ⟨_, _, F4, b4, PySem.W.mg_of X G a4⟩, ⟨_, _, F5, b5, PySem.W.mg_of X G a5⟩, ⟨_, _, F6, b6, PySem.W.mg_of X G a6⟩, ⟨_, _, F7, b7, PySem.W.mg_of X G a7⟩, ⟨_, _, F8, b8, PySem.W.mg_of X G a8⟩, ⟨_, _, F9, b9, PySem.W.mg_of X G a9⟩, ⟨_, _, F10, b10, PySem.W.mg_of X G a10⟩, ⟨_, _, F11, b11, PySem.W.mg_of X G a11⟩, ⟨_, _, F12, b12, PySem.W.mg_of X G a12⟩, ⟨_, _, F13, b13, PySem.W.mg_of X G a13⟩, ⟨_, _, F14, b14, PySem.W.mg_of X G a14⟩, ⟨_, _, F15, b15, PySem.W.mg_of X G a15⟩, ⟨_, _, F16, b16, PySem.W.mg_of X G a16⟩, ⟨_, _, F17, b17, PySem.W.mg_of X G a17⟩, ⟨_, _, F18, b18, PySem.W.mg_of X G a18⟩, ⟨_, PySem.W.mg_of X G z0⟩, PySem.W.mg_none_of X G z1, PySem.W.mg_none_of X G z2, PySem.W.mg_none_of X G z3, PySem.W.mg_none_of X G z4, PySem.W.mg_none_of X G z5, PySem.W.mg_none_of X G z6, PySem.W.mg_none_of X G z7, PySem.W.mg_none_of X G z8, PySem.W.mg_none_of X G z9, PySem.W.mg_none_of X G z10, PySem.W.mg_none_of X G z11, PySem.W.mg_none_of X G z12, PySem.W.mg_none_of X G z13, PySem.W.mg_none_of X G z14, PySem.W.mg_none_of X G z15⟩
  exact ⟨_, fun s v => .of_eq rfl, fun base _ _ => ok_law F19 T⟩
end SL

open PySem PySem.W PyProof.Rows
set_option maxHeartbeats 0 in
theorem PySem.Challenge.cw_samelayout_k03_probes_of_any_value_holds : PySem.Challenge.rw_samelayout_k03_probes_of_any_value.Holds := by
  w_on; o_law; k_head; (case hw => w_witness2)
  k_fill
  refine SL.walkG (l := PySem.Challenge.rw_samelayout_k03_probes_of_any_value) (n := 63) (k := 8) (x := "_law_script") (sp := SL.spLaw) rfl (by decide) rfl ⟨rfl, by decide, by decide⟩ (fun w h Y => PySem.W.kIn_of Y) ?F (fun K _ a ns hl _ hS => ⟨a, ns, rfl, hS, hl, fun _ => rfl⟩)
  case F =>
    intro w mg fa h KX G hmg
    refine' SL.all_mk KX G hmg ?a1 ?l1 ?c1 ?k1 ?a2 ?l2 ?c2 ?k2 ?a3 ?l3 ?c3 ?k3 ?a4 ?l4 ?c4 ?k4 ?a5 ?l5 ?c5 ?k5 ?a6 ?l6 ?c6 ?k6 ?a7 ?l7 ?c7 ?k7 ?a8 ?l8 ?c8 ?k8 ?a9 ?l9 ?c9 ?k9 ?a10 ?l10 ?c10 ?k10 ?a11 ?l11 ?c11 ?k11 ?a12 ?l12 ?c12 ?k12 ?a13 ?l13 ?c13 ?k13 ?a14 ?l14 ?c14 ?k14 ?a15 ?l15 ?c15 ?k15 ?a16 ?l16 ?c16 ?k16 ?a17 ?l17 ?c17 ?k17 ?a18 ?l18 ?c18 ?k18 ?a19 ?l19 ?c19 ?k19 ?z0 ?z1 ?z2 ?z3 ?z4 ?z5 ?z6 ?z7 ?z8 ?z9 ?z10 ?z11 ?z12 ?z13 ?z14 ?z15
    (case a1 => k_is); (case l1 => k_is); (case c1 => k_is); (case k1 => k_is)
    (case a2 => k_is); (case l2 => k_is); (case c2 => k_is); (case k2 => k_is)
    (case a3 => k_is); (case l3 => k_is); (case c3 => k_is); (case k3 => k_is)
    (case a4 => k_is); (case l4 => k_is); (case c4 => k_is); (case k4 => k_is)
    (case a5 => k_is); (case l5 => k_is); (case c5 => k_is); (case k5 => k_is)
    (case a6 => k_is); (case l6 => k_is); (case c6 => k_is); (case k6 => k_is)
    (case a7 => k_is); (case l7 => k_is); (case c7 => k_is); (case k7 => k_is)
    (case a8 => k_is); (case l8 => k_is); (case c8 => k_is); (case k8 => k_is)
    (case a9 => k_is); (case l9 => k_is); (case c9 => k_is); (case k9 => k_is)
    (case a10 => k_is); (case l10 => k_is); (case c10 => k_is); (case k10 => k_is)
    (case a11 => k_is); (case l11 => k_is); (case c11 => k_is); (case k11 => k_is)
    (case a12 => k_is); (case l12 => k_is); (case c12 => k_is); (case k12 => k_is)
    (case a13 => k_is); (case l13 => k_is); (case c13 => k_is); (case k13 => k_is)
    (case a14 => k_is); (case l14 => k_is); (case c14 => k_is); (case k14 => k_is)
    (case a15 => k_is); (case l15 => k_is); (case c15 => k_is); (case k15 => k_is)
    (case a16 => k_is); (case l16 => k_is); (case c16 => k_is); (case k16 => k_is)
    (case a17 => k_is); (case l17 => k_is); (case c17 => k_is); (case k17 => k_is)
    (case a18 => k_is); (case l18 => k_is); (case c18 => k_is); (case k18 => k_is)
    (case a19 => k_is); (case l19 => k_is); (case c19 => k_is); (case k19 => k_is)
    (case z0 => k_is); (case z1 => k_is); (case z2 => k_is); (case z3 => k_is); (case z4 => k_is); (case z5 => k_is); (case z6 => k_is); (case z7 => k_is); (case z8 => k_is); (case z9 => k_is); (case z10 => k_is); (case z11 => k_is); (case z12 => k_is); (case z13 => k_is); (case z14 => k_is); (case z15 => k_is)
