import PyProof.Rows.All
import Wide.All
import OpenK.AllK
import Wide.FinOn
import HandS.ForMost
import HandS.IsInst
import HandS.Conv
import HandS.SetFor
import HandS.SortInts
import HandS.TupAny
import HandS.Wide
import HandS.Style
import HandS.RaiseMore
import HandS.ExcValue
import KE.SortKeyHeap
import HandS.Lambda
import HandS.EndTab
import PyProof.ReprLen
import HandS.Zip
import HandS.Strs
import HandS.TupMul
import PySem.Challenge.RW_samelayout_k05_rules_of_orders
set_option Elab.async false
set_option linter.all false
set_option maxRecDepth 100000
namespace SL
open PySem PySem.Spec PyProof.Rows L2

/-! ### defs that are called where no text of an object is being made -/
structure FnG (P : Program) (w : World) (K : PySem.W.Frag) (mg : Str → Option Value) (base : Heap) (k : Nat) (f : Addr)
    (fd : FuncData) (ps : List Str) (sp : Sp) : Prop where
  size : ∀ vs H Q E, sp vs H Q E → vs.length = ps.length
  go : ∀ (A : Around) (outer : List Env) (s : Shared) (H : Hp) (args : Args) (us : List Value) (vs : List V) (Q : VK) (E : XK),
    A.guards = some [] → Room k A → Env0 P w K mg base A outer s H → BindsTo s fd args (ps.zip us) → Vals vs us →
    sp vs H Q E → codeAny (model P w) A (.call (.ref f) args) (CR CX0 outer P w H s Q E) s

section
variable {P : Program} {w : World} {K : PySem.W.Frag} {mg : Str → Option Value} {base : Heap}
theorem fnG_mk {x qual : Str} {st : Stmt} {f : Addr} {fd : FuncData} {N ps : List Str} {k : Nat} {sp : Sp}
    (F : Fun K x qual st f fd) (sc : FnScope N ps (defScope st)) (size : ∀ vs H Q E, sp vs H Q E → vs.length = ps.length)
    (body : ∀ (cdv : Value) (A : Around) (outer : List Env) (s : Shared) (H : Hp) (vs : List V) (Q : VK) (E : XK),
      A.guards = some [] → Room k (A.deeper (envOfC qual (defScope st) s.heap.objs.size f cdv)) → sp vs H Q E →
      ∃ t, PSs (cxOf CX0 P w K mg base N qual (defScope st) f cdv A outer s H E).nox (defBody st) t ∧
        t { nx := fun _ H' => Q .non H', rt := Q } (start N vs) H) : FnG P w K mg base (k + 1) f fd ps sp := by
  obtain ⟨oc, od, kV, doc, pm, an, cdv, ct, osl, rfl, look, code⟩ := F.ex
  constructor
  · exact size
  · intro A outer s H args us vs Q E hgd room env bound rel prom
    have many := size _ _ _ _ prom
    have inK : K.In s.heap := env.mod.kin.keeps fun b o q => (env.bs b o q).1
    have free : s.heap.NoLimit := env.mod.nolimit.keeps fun b o q => (env.bs b o q).1
    refine codeAny_call_function room.depth (inK _ _ look) rfl sc.co sc.gen rfl (PySem.W.codeRec_of inK code)
      (bound _ _ _ _ ?_)
    refine wpAny_newFunctionEnv_cells sc.kind ?kinds fun env' same s1 fresh => ?_
    case kinds =>
      rintro ⟨n, v⟩ here
      rcases sc.par n (List.of_mem_zip here).1 with q | q
      · exact Or.inl q
      · exact Or.inr ⟨q, PySem.W.cellsFrom_some _ _ _ (Or.inl q)⟩
    subst same
    refine ⟨free.keeps fresh.toInCall.keep, codeAny_func ?_⟩
    obtain ⟨t, der, reading⟩ := body cdv A outer s H vs Q E hgd (room.deeper _) prom
    have I := inv_start (CX := CX0) (E := E) sc room.hd env many rel fresh
    refine wpAny_mono (der.nox.run [] s1 (start N vs) H _ I reading) (fun fl s' e => ?_) fun _ _ e => e
    cases fl with
    | ret u => obtain ⟨v, σ', H', J, r', q⟩ := e; exact ⟨v, H', J.os, J.bare, J.base, J.hok, r', q⟩
    | next => obtain ⟨σ', H', J, q⟩ := e; exact ⟨.non, H', J.os, J.bare, J.base, J.hok, rfl, q⟩
    | brk => obtain ⟨_, _, _, q⟩ := e; exact False.elim q
    | cont => obtain ⟨_, _, _, q⟩ := e; exact False.elim q

/-- a call of such a def by its name -/
theorem pe_callG {X : Cx} {k : Nat} {f : Addr} {fd : FuncData} {ps : List Str} {sp : Sp} {x : Str} {p pos : Pos} {e : Expr} {es : List Expr} {t : TA}
    (F : FnG X.prog X.w X.K X.mg X.base k f fd ps sp) (gd : X.A.guards = some []) (room : Room k X.A) (gl : Gl X x)
    (at_ : X.mg x = some (.ref f)) (keep : PySem.W.keepIn X.K (.ref f) = true) (bd : Binds X.K fd ps []) (args : PA X (e :: es) t)
    (h1 : (x == ("__debug__" : Str)) = false := by decide)
    (h2 : starEach (e :: es) X.env = (false, eval e X.env) :: starEach es X.env := by rfl)
    (h3 : (backTo pos (starEach es X.env)).any (·.1) = false := by rfl) :
    PE X (.Call (.Name x p) (e :: es) [] pos) (tCall sp [] E0 t) := by
  constructor
  intro pins s σ H Q I h
  refine wpAny_Call_Name_kw (ld_glob I gl at_ ?_ h1)
  refine PySem.W.callWith_K (h₀ := X.base) I.ok.mod.kin keep (thn (args.run pos pins s σ H _ I h) ?_) h2 h3
  rintro us s1 ⟨vs, H1, I1, rel, q⟩
  refine ⟨I1.kIn, ?_⟩
  have q' : sp vs H1 Q E0 := by have z := q; rw [List.append_nil] at z; exact z
  have long : us.length = ps.length := by rw [← rel.length]; exact F.size _ _ _ _ q'
  have bd' := bd s1 us I1.kIn (by rw [List.append_nil]; exact long)
  rw [List.append_nil] at bd'
  refine wpAny_call (codeAny_mono (F.go X.A X.stack s1 H1 ⟨us, []⟩ us vs Q E0 gd room I1.env0 bd' rel q') fun r s' here => ?_)
  cases r with
  | error _ => exact False.elim here
  | ok fl => cases fl with
    | ret _ => exact I1.after here
    | next => exact False.elim here
    | brk => exact False.elim here
    | cont => exact False.elim here
end

/-! ### the law's own call -/
theorem lawG {P : Program} {w : World} {K : PySem.W.Frag} {mg mb : Str → Option Value} {k : Nat} {fa a : Addr} {fd : FuncData} {x : Str} {sp : Sp}
    {s₁ : Shared} {vs : List Value} {ns : List Int} (inK : K.In s₁.heap) (gl : s₁.heap.Ns mainGlobals mg) (bl : s₁.heap.Ns builtinsNs mb)
    (bb : ∀ x : Str, x ≠ "__name__" → mb x = bootBuiltins x) (lim : s₁.heap.NoLimit) (gens : s₁.gens = #[])
    (obj : s₁.heap.get? a = some { cls := .type "list", data := .seq vs.toArray }) (nums : IntsAre vs ns) (few : ns.length ≤ sizeLine) (room : Room k callerA)
    (F : ∀ base : Heap, K.In base → base.Ns mainGlobals mg → FnG P w K mg base k fa fd [x] sp)
    (bound : ∀ (s : Shared) (u : Value), BindsTo s fd ⟨[u], []⟩ [(x, u)])
    (prom : ∀ H : Hp, Only H → SqL K H a (ns.map V.int) → sp [.ref a] H (fun v _ => v = .bl true) E0) :
    codeAny (model P w) callerA (.call (.ref fa) ⟨[.ref a], []⟩)
      (fun r s' => r = .ok (.ret (.bool true)) ∧ OldK s₁.heap s'.heap ∧ s'.os = s₁.os ∧ AllBare s'.gens) s₁ := by
  have rel := vals_ints nums
  have inner : ∀ H : Hp, Only H → SqL K H a (ns.map V.int) → HOk P w H s₁.heap → (∀ b, H b ≠ none → b = a) →
      (H a ≠ none → K.lookup a = none) → codeAny (model P w) callerA (.call (.ref fa) ⟨[.ref a], []⟩)
        (fun r s' => r = .ok (.ret (.bool true)) ∧ OldK s₁.heap s'.heap ∧ s'.os = s₁.os ∧ AllBare s'.gens) s₁ := by
    intro H only seq hok alone outK
    have dictFree : ∀ {b : Addr} {o : Obj} {es : Array DictEntry} {ep : Nat}, s₁.heap.get? b = some o → o.data = .dict es ep → H b = none := by
      intro b o es ep e d
      cases q : H b with
      | none => rfl
      | some u =>
        obtain rfl : b = a := alone b (by rw [q]; intro z; cases z)
        rw [obj] at e
        cases e
        cases (show Data.seq vs.toArray _ = Data.dict es ep from d)
    have nsH : ∀ {b : Addr} {m : Str → Option Value}, s₁.heap.Ns b m → (hidT s₁.heap H).Ns b m := by
      rintro b m ⟨o, es, ep, e, d, r⟩
      exact ⟨o, es, ep, hidT_get e (dictFree e d), d, r⟩
    have kH : K.In (hidT s₁.heap H) := by
      intro b o e
      refine hidT_get (inK b o e) ?_
      cases q : H b with
      | none => rfl
      | some u =>
        obtain rfl : b = a := alone b (by rw [q]; intro z; cases z)
        rw [outK (by rw [q]; intro z; cases z)] at e
        cases e
    have limH : (hidT s₁.heap H).NoLimit := by
      obtain ⟨mc, h1, h2⟩ := lim
      exact ⟨mc, nsH h1, h2⟩
    have env : Env0 P w K mg (hidT s₁.heap H) callerA [] s₁ H := by
      refine ⟨rfl, ⟨kH, nsH gl, ⟨mb, nsH bl, bb⟩, limH⟩, fun b o e => of_hidT e, Nat.le_of_eq (hidT_size _ _), trivial, ?_, hok, .of_eq gens⟩
      intro b hb
      cases (show b ∈ ([] : List Addr) from hb)
    have G := F _ kH (nsH gl)
    refine codeAny_mono (G.go callerA [] s₁ H ⟨[.ref a], []⟩ [.ref a] [.ref a] _ _ rfl room env (bound s₁ (.ref a)) (.cons rfl .nil) (prom H only seq)) ?_
    intro r s' h
    cases r with
    | error e => exact False.elim h
    | ok fl => cases fl with
      | next => exact False.elim h
      | brk => exact False.elim h
      | cont => exact False.elim h
      | ret u =>
        obtain ⟨v, H', os, bare, un, hok', r', q⟩ := h
        obtain rfl : v = .bl true := q
        obtain rfl : u = Value.bool true := r'
        refine ⟨rfl, OldK.of_keep ?_, os, bare⟩
        intro b o e
        rcases only b with z | ⟨ob, xs, z⟩
        · exact un.keep b o e z (fun m => by cases (show b ∈ ([] : List Addr) from m)) (fun m => by cases m)
        · obtain ⟨e1, _⟩ := hok b _ z
          obtain ⟨e2, _⟩ := hok' b _ (un.frzs b ob _ z)
          rw [e] at e1
          cases e1
          exact e2
  cases written : K.lookup a with
  | some o =>
    have e := inK a o written
    rw [obj] at e
    cases e
    refine inner (fun _ => none) (fun _ => Or.inl rfl) (Or.inr ⟨_, vs.toArray, _, written, rfl, rfl, rfl, ?_, ?_⟩) (fun b u z => by cases z) (fun b z => absurd rfl z) (fun z => absurd rfl z)
    · rw [List.size_toArray, nums.length]; exact few
    · simpa using rel
  | none =>
    have yes : ∀ b : Addr, b = a → (fun b => if b = a then some (HO.frz { cls := .type "list", data := .seq vs.toArray } (.lst (ns.map V.int))) else none) b = some (HO.frz { cls := .type "list", data := .seq vs.toArray } (.lst (ns.map V.int))) := fun b e => if_pos e
    have no : ∀ b : Addr, b ≠ a → (fun b => if b = a then some (HO.frz { cls := .type "list", data := .seq vs.toArray } (.lst (ns.map V.int))) else none) b = none := fun b e => if_neg e
    refine inner (fun b => if b = a then some (HO.frz { cls := .type "list", data := .seq vs.toArray } (.lst (ns.map V.int))) else none) ?_ (Or.inl (Or.inr ⟨_, yes a rfl⟩)) ?_ ?_ (fun _ => written)
    · intro b
      by_cases same : b = a
      · exact Or.inr ⟨_, _, yes b same⟩
      · exact Or.inl (no b same)
    · intro b u z
      by_cases same : b = a
      · have z' := (yes b same).symm.trans z
        cases z'
        subst same
        exact ⟨obj, by rw [List.length_map]; exact few, vs, _, rel, obj⟩
      · have z' := (no b same).symm.trans z
        cases z'
    · intro b z
      by_cases same : b = a
      · exact same
      · exact absurd (no b same) z

theorem walkG {l : PySem.W.OpenLaw} {n k : Nat} {q : Program} {loose : List Str} {XP : (Str → Option Value) → Heap → Prop} {YP : World → Heap → Prop}
    {d : DefRec} {K : Params → PySem.W.Frag} {sp : PySem.W.Frag → Sp} {x : Str} (most : l.most = some n) (few : n ≤ sizeLine)
    (plain : d.params.defaults = []) (room : Room k callerA) (inK : ∀ (w : World) (h : Heap), YP w h → (K w.params).In h)
    (F : ∀ (w : World) (mg : Str → Option Value) (fa : Addr) (h : Heap), (K w.params).In h → h.Ns mainGlobals mg → mg d.name = some (.ref fa) →
      ∃ fd : FuncData, (∀ (s : Shared) (u : Value), BindsTo s fd ⟨[u], []⟩ [(x, u)]) ∧
        ∀ base : Heap, (K w.params).In base → base.Ns mainGlobals mg → FnG l.prog w (K w.params) mg base k fa fd [x] (sp (K w.params)))
    (prom : ∀ (K : PySem.W.Frag) (H : Hp) (a : Addr) (ns : List Int), ns.length ≤ n → Only H → SqL K H a (ns.map V.int) →
      sp K [.ref a] H (fun v _ => v = .bl true) E0) :
    PySem.W.WalkO q loose XP YP l.row.toRowW d [] (fun f vs => PySem.call f vs) := by
  refine Att.attach_call most plain ?_
  intro w s₀ s₁ mg mb fa o pm cd doc a vs ns G Y ho hd hcd named obj nums len gens
  obtain ⟨fd, bound, hF⟩ := F w mg fa _ (inK w _ Y) G.T.g named
  exact lawG (inK w _ Y) G.T.g G.T.b G.T.builtins G.T.nolimit gens obj nums (Nat.le_trans len few) room hF bound
    (fun H only seq => prom (K w.params) H a ns len only seq)
end SL

namespace SL
open PySem PySem.Spec PyProof.Rows L2

/-! ### powers of great numbers -/
theorem op_powB {X : Cx} : OpR X (binaryOp .Pow) (rI (fun i j => 0 ≤ j ∧ (Builtin.Int.intBits i : Int) * j ≤ 2 ^ 27) fun i j => .int (i ^ j.toNat)) :=
  opI fun _ _ _ _ _ _ _ c q => pow_int c.1 c.2 q

/-! ### repr -/
/-- a value that is data: as the layer reads it, or an empty dict -/
def Da (K : PySem.W.Frag) (H : Hp) (v : V) (d : PyData) : Prop :=
  (Dp K H v d ∧ d.hasDict = false) ∨ ∃ a, v = .ref a ∧ H a = some (.dK []) ∧ d = .dict []
def rRepr (K : PySem.W.Frag) : List V → Hp → VK → Prop := fun xs H Q => ∃ v d, xs = [v] ∧ Da K H v d ∧ d.showable = true ∧ d.depth ≤ 50 ∧
  d.shown.length ≤ sizeLine ∧ Q (.str d.shown) H
theorem call_reprD {X : Cx} (gd : X.A.guards = some []) (hu : X.A.units + 64 < cLine) : CallR X (.builtin "repr") (rRepr X.K) := by
  intro pins s σ H xs us Q I r h
  obtain ⟨v, d, rfl, da, sh, dep, siz, q⟩ := h
  cases r with
  | cons r0 rt =>
    cases rt
    rename_i u
    have big : ∀ (a : Addr) (as : List Addr), Reads s.heap (.ref a) d as → (d.hasDict = true → sysModules ∉ as) → u = .ref a →
        wpAny (model X.prog X.w) X.A (call (.builtin "repr") [u]) (EP X pins σ Q) X.xe s := by
      intro a as rd nd e
      subst e
      refine repr_of_reads' rd sh nd gd (by omega) (fun _ _ e => e) (fun h' u tk kept => ?_) siz
      exact ⟨.str d.shown, H, I.kept kept, ⟨_, rfl⟩, q⟩
    rcases da with ⟨dp, nd⟩ | ⟨a, rfl, ha, rfl⟩
    · obtain ⟨as, rd⟩ := Dp.reads I d v u dp r0
      cases dp with
      | non => cases r0; exact PySem.P.repr_of_none ⟨.str _, H, I.tok _, ⟨_, rfl⟩, q⟩
      | bl b => cases r0; exact PySem.P.repr_of_bool ⟨.str _, H, I.tok _, ⟨_, rfl⟩, q⟩
      | int i =>
        obtain ⟨t, rfl⟩ := r0
        exact PySem.P.repr_of_int (of_decide_eq_true sh) ⟨.str _, H, I.tok _, ⟨_, rfl⟩, q⟩
      | str x =>
        obtain ⟨t, rfl⟩ := r0
        exact PySem.P.repr_of_str (h := ⟨.str _, H, I.tok _, ⟨_, rfl⟩, q⟩) siz
      | lst _ _ => cases r0; exact big _ as rd (fun z => by rw [nd] at z; cases z) rfl
      | tup _ _ => cases r0; exact big _ as rd (fun z => by rw [nd] at z; cases z) rfl
    · cases r0
      obtain ⟨_, ns, vs, kv, o, es, ep, e, ex, dt, rest⟩ := I.hok a _ ha
      cases kv
      have e0 : es.toList = [] := by
        have z := rest.2.1.length
        cases q : es.toList with
        | nil => rfl
        | cons x y => rw [q] at z; cases z
      refine big a ([a]) ?_ (fun _ m => ?_) rfl
      · exact Reads.dict (as := []) (bs := []) e ex.1 dt (by rw [e0]; exact .nil) (by rw [e0]; exact .nil)
      · rw [List.mem_singleton] at m
        rw [← m] at ns
        simp at ns

theorem objGet {P : Program} {w : World} {H : Hp} {h : Heap} {a : Addr} {o : HO} (x : ObjOk P w H h a o) : ∃ u, h.get? a = some u := by
  cases o with
  | lst xs => obtain ⟨_, _, _, _, e⟩ := x; exact ⟨_, e⟩
  | tup xs => obtain ⟨_, _, _, _, e, _⟩ := x; exact ⟨_, e⟩
  | dK kvs => obtain ⟨_, _, _, _, _, _, _, e, _⟩ := x; exact ⟨_, e⟩
  | dT kvs => obtain ⟨_, _, _, _, _, _, _, e, _⟩ := x; exact ⟨_, e⟩
  | set S n => obtain ⟨_, _, _, _, e, _⟩ := x; exact ⟨_, e⟩
  | ins C dx fs => obtain ⟨_, _, _, e, _⟩ := x; exact ⟨_, e⟩
  | own y => exact x
  | xd fs => obtain ⟨_, ⟨_, _, _, e, _⟩, _⟩ := x; exact ⟨_, e⟩
  | rng lo hi => obtain ⟨_, _, _, e⟩ := x; exact ⟨_, e⟩
  | frz ob u => obtain ⟨e, _⟩ := x; exact ⟨_, e⟩
  | tbl ps => exact ⟨_, x⟩
  | met f y => exact ⟨_, x⟩
  | ext φ => obtain ⟨_, e, _⟩ := x; exact e

/-! ### sorted(t), a tuple of ints -/
def rSortT (K : PySem.W.Frag) : List V → Hp → VK → Prop := fun vs H Q => ∃ (a : Addr) (ns : List Int), vs = [V.ref a] ∧ SqT K H a (ns.map V.int) ∧
  ∀ (out : List Int) (p : Addr), out.Perm ns → out.Pairwise (· ≤ ·) → H p = none → Q (.ref p) (upd H p (.lst (out.map V.int)))
theorem cr_sortT {X : Cx} : CallR X (.builtin "sorted") (rSortT X.K) := by
  intro pins s σ H vs us Q I r h
  obtain ⟨a, ns, rfl, hs, q⟩ := h
  obtain ⟨its, rv, ht, hz⟩ := I.tuple hs
  obtain ⟨o, ho, hc, n, hd⟩ := id ht
  rw [Vals.ref1 r]
  have nums := rv.ints
  have hz' : its.length ≤ sizeLine := by rw [← rv.length]; exact hz
  refine Calls.call_function_entry kind_sorted plain_sorted entry_sorted (args_sorted1 _) ?_
  unfold Builtin.«sorted»
  refine wpAny_bind (m := checkCount "sorted" 1 1 _) (wpAny_pure ?_)
  refine wpAny_bind (wpAny_collect_seq a (Or.inr rfl) ho hc hd (fun h1 kept => ?_) (by simpa using hz'))
  refine wpAny_bind (wpAny_newList ?_ (by simpa using hz'))
  have hoL : (h1.push (seqObj "list" its.toArray 0)).get? h1.objs.size = some (seqObj "list" its.toArray 0) := Heap.get?_push_size _ rfl
  have new1 : s.heap.get? h1.objs.size = none := by
    cases q : s.heap.get? h1.objs.size with
    | none => rfl
    | some o => exact absurd (Heap.lt_size (kept _ _ q)) (Nat.lt_irrefl _)
  have new2 : H h1.objs.size = none := by
    cases q : H h1.objs.size with
    | none => rfl
    | some u =>
      obtain ⟨o, z⟩ := objGet (I.hok _ _ q)
      rw [new1] at z
      cases z
  show wpAny _ _ _ _ _ { s with heap := h1.push (seqObj "list" its.toArray 0) }
  refine wpAny_bind (wpAny_holding (wpAny_call_entry slot_list_sort ⟨_, hoL, rfl⟩ entry_list_sort
    (SrtO.list_sort_ord SrtO.swo_int hoL hz' (fun h2 => SrtO.ints_sortable nums h2) fun out hs hb => ⟨_, rfl, ?_⟩) (args_list_sort _)))
  refine wpAny_pure ⟨_, rfl, ?_⟩
  obtain ⟨k1, k2, k3⟩ := SrtO.ints_out nums hs hb
  obtain ⟨ep, he⟩ := sortedHeap_at (vs := its) (out := out.toArray) hoL
  have len : ((out.map SrtO.iv).map V.int).length ≤ sizeLine := by
    rw [List.length_map, k2.length_eq]
    rw [List.length_map] at hz
    exact hz
  refine ⟨.ref h1.objs.size, upd H h1.objs.size (.lst ((out.map SrtO.iv).map V.int)), I.laidN (t' := s.toks) ?_ new1 new2 ⟨len, out, ep, vals_of_ints k1, he⟩, rfl, q _ _ k2 k3 new2⟩
  intro b u hu
  have lt : b < h1.objs.size := Heap.lt_size (kept _ _ hu)
  have lt2 : b < (h1.push (seqObj "list" its.toArray 0)).objs.size := by rw [Heap.size_push]; exact Nat.lt_succ_of_lt lt
  rw [sortedHeap_old (Nat.ne_of_lt lt) lt2]
  exact Heap.get?_push_of_some _ (kept _ _ hu)

/-! ### len(set(t)), a tuple of ints -/
def tLenSetT (K : PySem.W.Frag) (ta : TE) : TE := fun σ H Q => ta σ H fun x H1 => ∃ (l : Addr) (ns : List Int), x = .ref l ∧ SqT K H1 l (ns.map V.int) ∧ ns.length ≤ 4000 ∧
  ∀ ks : List Int, ks.Nodup → (∀ k, k ∈ ks ↔ k ∈ ns) → Q (.int (ks.length : Nat)) H1
theorem pe_lenSetT {X : Cx} {a : Expr} {ta : TE} {p p2 q pos : Pos} (g1 : Gl X "len") (m1 : X.mg "len" = none) (g2 : Gl X "set") (m2 : X.mg "set" = none) (ha : PE X a ta)
    (calm : X.calm = true := by rfl) (one : starEach [a] X.env = (false, eval a X.env) :: starEach [] X.env := by rfl) :
    PE X (.Call (.Name "len" p) [.Call (.Name "set" p2) [a] [] q] [] pos) (tLenSetT X.K ta) := by
  constructor
  intro pins s σ H Q I h
  refine Call_ (ld_blt I g1 m1 boot_len ?_)
  refine callWith_builtin1 (args_cons ?_ rfl) rfl rfl
  refine Call_ (ld_blt I g2 m2 boot_set ?_)
  refine callWith_type1 (args_cons (thn (ha.run pins s σ H _ I h) ?_) one) one rfl
  rintro v s1 ⟨x, H1, I1, r1, l, ns, rfl, seq, few, q1⟩
  refine args_nil ?_
  cases r1
  obtain ⟨its, rv, ht, hz⟩ := I1.tuple seq
  refine call_set_tupI ns (I1.ok.hd calm) ht (by simpa using rv.ints) (by unfold scanBound; omega) fun h' tk c hS hc kept => ?_
  refine args_nil ?_
  obtain ⟨o, es, ep, t, ho, ex, dt, _, nd, mem, lt, fits, siz, _⟩ := hS
  have I2 : Inv X pins σ H1 { s1 with heap := h', toks := tk } := I1.kept kept
  have len : (es.toList.map keyOf).length = es.size := by rw [List.length_map, Array.length_toList]
  have few' : (es.size : Int) < 2 ^ 63 := by
    have z : es.size ≤ 4000 := by omega
    omega
  refine call_len_set ho ex dt fits few' ⟨.int es.size, H1, I2.tok _, ⟨_, rfl⟩, ?_⟩
  have z := q1 (es.toList.map keyOf) nd fun k => by rw [← mem k]; simp
  rw [len] at z
  exact z

/-! ### t[::-1], a tuple -/
theorem adjustBack (n : Nat) : Builtin.Slice.sliceAdjust none none (-1) (n : Int) = ((n : Int) - 1, -1) := by
  unfold Builtin.Slice.sliceAdjust
  simp
theorem placesBack (n : Nat) : Builtin.Slice.slicePlaces ((n : Int) - 1) (-1) (-1) = n := by
  unfold Builtin.Slice.slicePlaces
  simp
  omega
theorem pickBack (xs : Array Value) : ((List.range xs.size).filterMap fun (m : Nat) => xs[(((xs.size : Int) - 1) + (m : Int) * (-1)).toNat]?).toArray = xs.toList.reverse.toArray := by
  have e : ((List.range xs.size).filterMap fun (m : Nat) => xs[(((xs.size : Int) - 1) + (m : Int) * (-1)).toNat]?) = ((List.range xs.size).map fun k => xs.size - 1 - k).filterMap (xs[·]?) := by
    rw [List.filterMap_map]
    have all : ∀ l : List Nat, (∀ m ∈ l, m < xs.size) → (l.filterMap fun (m : Nat) => xs[(((xs.size : Int) - 1) + (m : Int) * (-1)).toNat]?) = l.filterMap ((fun x => xs[x]?) ∘ fun k => xs.size - 1 - k) := by
      intro l
      induction l with
      | nil => intro _; rfl
      | cons m r ih =>
        intro hl
        have z : (((xs.size : Int) - 1) + (m : Int) * (-1)).toNat = xs.size - 1 - m := by
          have := hl m List.mem_cons_self
          omega
        rw [List.filterMap_cons, List.filterMap_cons, z, ih fun n hn => hl n (List.mem_cons_of_mem _ hn)]
        rfl
    exact all _ fun m hm => List.mem_range.mp hm
  rw [e, PySem.W.krv_range, List.filterMap_reverse, PySem.W.krv_all]
def tRevT (K : PySem.W.Frag) (te : TE) : TE := fun σ H Q => te σ H fun x H1 => ∃ a xs, x = .ref a ∧ SqT K H1 a xs ∧ ∀ p, H1 p = none → Q (.ref p) (upd H1 p (.tup xs.reverse))
theorem pe_revT {X : Cx} {e : Expr} {te : TE} {k : Nat} {p1 p2 p3 pos : Pos} (he : PE X e te) :
    PE X (.Subscript e (.Slice none none (some (.UnaryOp .USub (.Constant (.int 1) k p1) p2)) p3) pos) (tRevT X.K te) := by
  constructor
  intro pins s σ H Q I h
  refine Subscript_ (thn (he.run pins s σ H _ I h) ?_)
  rintro v s1 ⟨x, H1, I1, r1, a, xs, rfl, hx, q⟩
  cases r1
  have step : PO X (some (.UnaryOp .USub (.Constant (.int 1) k p1) p2)) (tPart (tUn (rU fun i => .int (-i)) (tC (.int 1)))) := po_some (pe_un un_neg pe_int)
  refine wpAny_Slice (thn (po_none.run pins s1 σ H1 (fun o G => o = none ∧ G = H1) I1 ⟨rfl, rfl⟩) ?_)
  rintro vl s2 ⟨l, H2, I2, pl, rfl, rfl⟩
  refine thn (po_none.run pins s2 σ H2 (fun o G => o = none ∧ G = H2) I2 ⟨rfl, rfl⟩) ?_
  rintro vu s3 ⟨u, H3, I3, pu, rfl, rfl⟩
  refine thn (step.run pins s3 σ H3 (fun o G => o = some (-1) ∧ G = H3) I3 ⟨1, rfl, -1, rfl, rfl, rfl⟩) ?_
  rintro vs s4 ⟨o, H4, I4, ps, rfl, rfl⟩
  have I5 : Inv X pins σ H4 { s4 with heap := s4.heap.push { cls := .type "slice", data := .fields #[vl, vu, vs] } } := I4.kept (t' := s4.toks) fun b ob z => Heap.get?_push_of_some _ z
  obtain ⟨its, r, ht, hz⟩ := I5.tuple hx
  have len := r.length
  show wpAny (model X.prog X.w) X.A (subscriptTail e (.Slice none none (some (.UnaryOp .USub (.Constant (.int 1) k p1) p2)) p3) (.ref a) (.ref s4.heap.objs.size)) (EP X pins σ Q) X.xe
    { s4 with heap := s4.heap.push { cls := .type "slice", data := .fields #[vl, vu, vs] } }
  refine tail_any (ops := [.ref a, .ref s4.heap.objs.size]) ht.typeIs PyProof.Rows.slot_tuple_getitem.lookup ?_ (by with_unfolding_all rfl)
  have hsl : Heap.IsSliceOf (s4.heap.push { cls := .type "slice", data := .fields #[vl, vu, vs] }) s4.heap.objs.size vl vu vs := Heap.IsSliceOf.new _ vl vu vs
  obtain ⟨os, hos, hcs, hds⟩ := id hsl
  have typ : Shared.TypeIs { s4 with heap := s4.heap.push { cls := .type "slice", data := .fields #[vl, vu, vs] } } (.ref s4.heap.objs.size) "slice" := ⟨os, hos, hcs⟩
  have small : sizeOk (.seq its.reverse.toArray) := by
    show its.reverse.toArray.size ≤ sizeLine
    rw [List.size_toArray, List.length_reverse, ← len]
    exact hz
  have fin : EP X pins σ Q (.ref (s4.heap.push { cls := .type "slice", data := .fields #[vl, vu, vs] }).objs.size)
      { s4 with heap := (s4.heap.push { cls := .type "slice", data := .fields #[vl, vu, vs] }).push { cls := .type "tuple", data := .seq its.reverse.toArray } } := by
    refine ⟨.ref _, _, I5.laid (t' := s4.toks) (o := .tup xs.reverse) (fun b ob z => Heap.get?_push_of_some _ z) (Nat.le_refl _) ?_, rfl, q _ (I5.hok.fresh (Nat.le_refl _))⟩
    exact ⟨by rw [List.length_reverse]; exact hz, _, r.reverse, ⟨_, Heap.get?_push_size _ rfl, rfl, _, rfl⟩⟩
  unfold getItem
  try with_reducible refine wpAny_holding ?_
  first | refine wpAny_bind (wpAny_pure ?_) | skip
  refine wpAny_bind (wpAny_sequenceKey ht.typeIs (by decide) ?_)
  refine wpAny_bind (wpAny_callSpecial?_slot (name := Str.ofString "__getitem__") ht.typeIs PyProof.Rows.slot_tuple_getitem (wpAny_call_entry PyProof.Rows.slot_tuple_getitem ht.typeIs PyProof.Rows.entry_tuple_getitem ?_ (PyProof.Rows.args_tuple_getitem _ _)))
  show wpAny _ _ (Builtin.Tuple.tupleItemsOf (.ref a) >>= _) _ _ _
  refine wpAny_bind (PyProof.Rows.tupleItemsOf_ ht ?_)
  refine wpAny_bind (wpAny_typeOf typ ?_)
  rw [if_pos (by decide)]
  refine wpAny_bind ?_
  unfold Builtin.Slice.sliceApplied Builtin.Slice.sliceFields
  refine wpAny_bind (wpAny_bind (wpAny_field hos hds (x := vl) rfl (wpAny_bind (wpAny_field hos hds (x := vu) rfl (wpAny_bind (wpAny_field hos hds (x := vs) rfl (wpAny_pure ?_)))))))
  refine wpAny_bind (HT.slicePart_ ps ?_)
  show wpAny _ _ (if ((-1 : Int) == 0) = true then _ else _) _ _ _
  rw [if_neg (by decide)]
  refine wpAny_bind (HT.slicePart_ pl (wpAny_bind (HT.slicePart_ pu (wpAny_bind (wpAny_pure ?_)))))
  show wpAny _ _ (match Builtin.Slice.sliceAdjust none none (-1) (its.toArray.size : Int) with | (lo, hi) => pure (lo, (-1 : Int), Builtin.Slice.slicePlaces lo hi (-1))) _ _ _
  rw [adjustBack]
  show wpAny _ _ (pure (((its.toArray.size : Int) - 1), (-1 : Int), Builtin.Slice.slicePlaces ((its.toArray.size : Int) - 1) (-1) (-1))) _ _ _
  rw [placesBack]
  refine wpAny_pure ?_
  have hno : ¬ ((((its.toArray.size : Int) - 1) == 0 && (-1 : Int) == 1 && its.toArray.size == its.toArray.size) = true) := by
    rw [show ((-1 : Int) == 1) = false from rfl, Bool.and_false, Bool.false_and]
    exact Bool.false_ne_true
  show wpAny _ _ (if (((its.toArray.size : Int) - 1) == 0 && (-1 : Int) == 1 && its.toArray.size == its.toArray.size) = true then _ else _) _ _ _
  rw [if_neg hno, pickBack]
  first
    | exact wpAny_bind (m := Builtin.Tuple.tupleExact _) (wpAny_newObj_type (wpAny_pure ⟨_, rfl, wpAny_pure fin⟩) small)
    | exact wpAny_bind (m := Builtin.Tuple.tupleExact _) (wpAny_newObj_type (wpAny_bind (wpAny_pure (wpAny_pure ⟨_, rfl, wpAny_pure fin⟩))) small)
    | exact wpAny_bind (wpAny_bind (m := Builtin.Tuple.tupleExact _) (wpAny_newObj_type (wpAny_pure (wpAny_pure ⟨_, rfl, wpAny_pure fin⟩)) small))
    | exact wpAny_bind (wpAny_bind (m := Builtin.Tuple.tupleExact _) (wpAny_newObj_type (wpAny_pure ⟨_, rfl, wpAny_pure fin⟩) small))
end SL

namespace SL
open PySem PySem.Spec PyProof.Rows L2 PySem.W PySem.Calls
/-! ### list.sort by the keys that a function makes, in any state that the calls keep -/
/-- all but these two objects stand -/
def But2 (x y : Addr) (h g : Heap) : Prop := ∀ c ob, c ≠ x → c ≠ y → h.get? c = some ob → g.get? c = some ob
section
variable {P : Program} {w : World} {A : Around} {E : Value → Shared → Prop} {s : Shared} {a : Addr} {f : Value} {n : Nat} {vs : List Value} {kz : List PyData} {Q : PySem.Fin → Shared → Prop}
/-- what is known while the keys are made: where they are kept, those made, the state -/
structure KeySt (P : Program) (w : World) (A : Around) (s : Shared) (a : Addr) (f : Value) (vs : List Value) (kz : List PyData) (Z : Addr → List Value → Shared → Prop) : Prop where
  first : ∀ (y : Addr) (g : Heap), s.heap.objs.size ≤ y → y ≠ a → (∀ c ob, c ≠ a → s.heap.get? c = some ob → g.get? c = some ob) → Z y [] { s with heap := g }
  other : ∀ (y : Addr) (ks : List Value) (s1 : Shared) (g : Heap), Z y ks s1 → But2 a y s1.heap g → Z y ks { s1 with heap := g }
  turn : ∀ (y : Addr) (ks : List Value) (s1 : Shared) (v : Value) (oa oy : Obj), vs[ks.length]? = some v → Z y ks s1 → s1.heap.get? a = some oa → s1.heap.get? y = some oy →
    wpAny (model P w) A (call f [v]) (fun u s2 => Z y (ks ++ [u]) s2 ∧ s2.heap.get? a = some oa ∧ s2.heap.get? y = some oy) (fun _ _ => False) s1
  made : ∀ (y : Addr) (ks : List Value) (s1 : Shared), Z y ks s1 → ks.length = vs.length → EachIs (fun v d => ∃ as, Reads s1.heap v d as) ks kz
theorem sort_made {Z : Addr → List Value → Shared → Prop} (T : KeySt P w A s a f vs kz Z) (ho : s.heap.get? a = some (seqObj "list" vs.toArray n)) (few : vs.length ≤ sizeLine) (al : AllAlike kz) (so : Sortable kz) (un : ∀ d, d ∈ kz → A.units + d.depth < cLine)
    (fin : ∀ (y : Addr) (ks : List Value) (s1 : Shared) (g : Heap) (out : List Value) (tk c : Nat), Z y ks s1 → But2 a y s1.heap g → g.get? a = some (seqObj "list" out.toArray c) → KeyedOut false kz vs out → Q (.done (.ret .none)) { s1 with heap := g, toks := tk }) :
    wpAny (model P w) A (ksk_tree a f false) Q E s := by
  have la := Heap.lt_size ho
  obtain ⟨e1, na⟩ : ∃ e1, (s.heap.update a (Obj.mapSeq fun _ => (#[] : Array Value))).get? a = some (seqObj "list" #[] e1) := ⟨_, get?_update_seq ho fun _ => #[]⟩
  have sb := Heap.SameBut.update s.heap a (Obj.mapSeq fun _ => (#[] : Array Value))
  unfold ksk_tree
  refine wpAny_bind (listItems_at ho rfl (wpAny_bind (listUpdate_at ho rfl ?_ (by rw [List.size_toArray]; exact few) (Nat.zero_le _))))
  refine wpAny_bind (seqEpoch_at na rfl (wpAny_bind (wpAny_newTuple (wpAny_bind (wpAny_newList (wpAny_holding ?_) (Nat.zero_le _))) (by show vs.length ≤ _; exact few))))
  generalize ey : (Heap.push (Heap.update s.heap a (Obj.mapSeq fun _ => (#[] : Array Value))) { cls := .type "tuple", data := .seq vs.toArray.toList.toArray }).objs.size = y
  have ysz : y = s.heap.objs.size + 1 := by rw [← ey, size_push', Heap.size_update]
  have ya : y ≠ a := Nat.ne_of_gt (by rw [ysz]; exact Nat.lt_succ_of_lt la)
  have z0 : Z y [] { s with heap := ((Heap.update s.heap a (Obj.mapSeq fun _ => (#[] : Array Value))).push { cls := .type "tuple", data := .seq vs.toArray.toList.toArray }).push { cls := .type "list", data := .seq ([] : List Value).toArray } } :=
    T.first y _ (by omega) ya fun c ob nc e => Heap.get?_push_of_some _ (Heap.get?_push_of_some _ ((sb.2 c nc).trans e))
  have y0 : (((Heap.update s.heap a (Obj.mapSeq fun _ => (#[] : Array Value))).push { cls := .type "tuple", data := .seq vs.toArray.toList.toArray }).push { cls := .type "list", data := .seq ([] : List Value).toArray }).get? y = some (seqObj "list" #[] 0) := by
    rw [← ey]
    exact Heap.get?_push_size _ rfl
  have a0 : (((Heap.update s.heap a (Obj.mapSeq fun _ => (#[] : Array Value))).push { cls := .type "tuple", data := .seq vs.toArray.toList.toArray }).push { cls := .type "list", data := .seq ([] : List Value).toArray }).get? a = some (seqObj "list" #[] e1) :=
    Heap.get?_push_of_some _ (Heap.get?_push_of_some _ na)
  generalize ((Heap.update s.heap a (Obj.mapSeq fun _ => (#[] : Array Value))).push { cls := .type "tuple", data := .seq vs.toArray.toList.toArray }).push { cls := .type "list", data := .seq ([] : List Value).toArray } = g0 at z0 y0 a0 ⊢
  unfold ksk_rest
  refine wpAny_bind (wpAny_rule ?_)
  rw [← Array.forIn_toList]
  refine wpAny_bind (ksk_fold (fun i s1 => ∃ (ks : List Value) (e : Nat), ks.length = i ∧ Z y ks s1 ∧ s1.heap.get? y = some (seqObj "list" ks.toArray e) ∧ s1.heap.get? a = some (seqObj "list" #[] e1)) vs.toArray.toList 0 _ ⟨[], 0, rfl, z0, y0, a0⟩ ?_ ?_)
  · rintro j x s1 hx ⟨ks, e, lk, z, hy, ha⟩
    rw [List.toList_toArray] at hx
    have lj := (List.getElem?_eq_some_iff.mp hx).1
    have lk' : ks.length = j := by omega
    refine wpAny_bind (wpAny_attempt (wpAny_mono (T.turn y ks s1 x _ _ (by rw [lk']; exact hx) z ha hy) (fun u s2 h => ?_) fun _ _ h => h.elim))
    obtain ⟨z2, ha2, hy2⟩ := h
    try dsimp only
    have sy := Heap.SameBut.update s2.heap y (Obj.mapSeq (·.push u))
    have few2 : ks.toArray.size ≤ sizeLine := by rw [List.size_toArray]; omega
    refine wpAny_bind (listUpdate_at hy2 rfl ?_ few2 (by rw [Array.size_push]; omega))
    have new := get?_update_seq hy2 (·.push u)
    have ep : ks.toArray.push u = (ks ++ [u]).toArray := by simp
    rw [ep] at new
    exact wpAny_pure ⟨rfl, ks ++ [u], _, by rw [List.length_append, lk]; rfl, T.other y _ s2 _ z2 fun c ob _ ny e => (sy.2 c ny).trans e, new, (sy.2 a ya.symm).trans ha2⟩
  · rintro s1 ⟨ks, e, lk, z, hy, ha⟩
    rw [List.toList_toArray, Nat.zero_add] at lk
    have each := T.made y ks s1 z lk
    try dsimp only
    refine wpAny_bind (listItems_at hy rfl ?_)
    have hid : (hideAll s1.heap [y]).get? y = none := hideAll_none _ (by simp)
    have kb : KeepsBut a (hideAll s1.heap [y]) s1.heap := fun c ob _ q => of_hideAll [y] q
    have so2 : SortsAt P w A s1 (dataKind s1.heap kz) ks.toArray.toList := by
      rw [List.toList_toArray]
      exact SortsAt.data each al so un
    refine keyH_end (vs := vs) kb hid hy ha ya so2 (by rw [List.size_toArray]; exact lk) few fun g tk c k3 n3 => ?_
    refine fin y ks s1 g _ tk c z (fun c' ob n1 n2 q => k3 c' ob n1 (hideAll_get _ q (by simpa using n2))) n3 ⟨s1.heap, ks.toArray.toList, al, rfl, ?_⟩
    rw [List.toList_toArray]
    exact each
end
/-! ### sorted(range(..), key = f) -/
section
variable {P : Program} {w : World} {A : Around} {E : Value → Shared → Prop} {s : Shared} {r fa : Addr} {hi : Int} {t u v : Tok} {m : Nat} {Q : Value → Shared → Prop} {kz : List PyData}
theorem sorted_made (hh : A.handled = none) (hr : IsRange s.heap r 0 hi 1 t u v) (rg : RgOk 0 hi) (em : hi.toNat = m) (al : AllAlike kz) (so : Sortable kz) (un : ∀ d, d ∈ kz → A.units + 2 + d.depth < cLine)
    (go : ∀ (g : Heap) (tk : Nat) (vs : List Value), (∀ c ob, s.heap.get? c = some ob → g.get? c = some ob) → vs.length = m → (∀ (i : Nat) (x : Value), vs[i]? = some x → ∃ t, x = .int i t) →
      ∃ Z : Addr → List Value → Shared → Prop, KeySt P w A.in1.in1 { s with heap := g.push (seqObj "list" vs.toArray 0), toks := tk } g.objs.size (.ref fa) vs kz Z ∧
        ∀ (y : Addr) (ks : List Value) (s1 : Shared) (h : Heap) (out : List Value) (tk2 c : Nat), Z y ks s1 → But2 g.objs.size y s1.heap h → h.get? g.objs.size = some (seqObj "list" out.toArray c) → KeyedOut false kz vs out → Q (.ref g.objs.size) { s1 with heap := h, toks := tk2 }) :
    wpAny (model P w) A (call (.builtin "sorted") [.ref r] [(Str.ofString "key", .ref fa)]) Q E s := by
  obtain ⟨b1, b2, b3, b4, b5⟩ := rg
  refine call_function_entry_kw kind_sorted plain_sorted entry_sorted (ksk_s1 _ _) ?_
  unfold Builtin.«sorted»
  refine wpAny_bind (m := checkCount "sorted" 1 1 _) (wpAny_pure ?_)
  refine wpAny_bind (collect_range (A := A.in1) hh hr (small_one b1 b2 b3 b4) (rangeSize_nat 0 hi) b5 fun g tk acc keep items => ?_)
  have len : acc.toList.length = m := by
    rw [Array.length_toList, items.1]
    omega
  have few : acc.toList.length ≤ sizeLine := by
    rw [len, sizeLine_eq]
    omega
  obtain ⟨Z, T, fin⟩ := go g tk acc.toList keep len fun i x hx => by
    have z := items.2 i x (by rw [← Array.getElem?_toList]; exact hx)
    obtain ⟨t, e⟩ := z
    exact ⟨t, by rw [e]; congr 1; omega⟩
  refine wpAny_bind (wpAny_newList ?_ few)
  have at_ : (g.push (seqObj "list" acc.toList.toArray 0)).get? g.objs.size = some (seqObj "list" acc.toList.toArray 0) := Heap.get?_push_size _ rfl
  refine wpAny_bind (wpAny_holding (wpAny_call_entry_kw slot_list_sort ⟨_, at_, rfl⟩ entry_list_sort ?_ (ksk_l1 _ _)))
  rw [ksk_t1]
  refine sort_made T at_ few al so (fun d hd => un d hd) fun y ks s1 h out tk2 c z bt ha ko => ⟨_, rfl, wpAny_pure ⟨_, rfl, fin y ks s1 h out tk2 c z bt ha ko⟩⟩
end
end SL

namespace SL
open PySem PySem.Spec PyProof.Rows L2 LamX
/-! ### a lambda of one parameter -/
structure LamP (sc scope : Scope) (x : Str) : Prop where
  kind : scope.kind = .function
  co : scope.isCoroutine = false
  gen : scope.isGenerator = false
  mine : scope.names.lookup x = some .local
  only : ∀ y ∈ scope.names, y.2 ≠ .cell ∧ (y.2 = .local → y.1 = x)
  from_ : ∀ y ∈ scope.names, y.2 = .free → sc.names.lookup y.1 = some .cell ∨ sc.names.lookup y.1 = some .free
def lamPB (sc scope : Scope) (x : Str) : Bool :=
  decide (scope.kind = .function) && !scope.isCoroutine && !scope.isGenerator && decide (scope.names.lookup x = some .local) &&
    scope.names.all fun y => !decide (y.2 = .cell) && (!decide (y.2 = .local) || decide (y.1 = x)) && (!decide (y.2 = .free) || decide (sc.names.lookup y.1 = some .cell) || decide (sc.names.lookup y.1 = some .free))
theorem lamP_by {sc scope : Scope} {x : Str} (h : lamPB sc scope x = true) : LamP sc scope x := by
  unfold lamPB at h
  simp only [Bool.and_eq_true, Bool.or_eq_true, Bool.not_eq_true', decide_eq_true_eq, decide_eq_false_iff_not, List.all_eq_true] at h
  obtain ⟨⟨⟨⟨h1, h2⟩, h3⟩, h4⟩, h5⟩ := h
  refine ⟨h1, h2, h3, h4, fun y hy => ⟨(h5 y hy).1.1, fun e => ?_⟩, fun y hy e => ?_⟩
  · rcases (h5 y hy).1.2 with z | z
    · exact absurd e z
    · exact z
  · rcases (h5 y hy).2 with (z | z) | z
    · exact absurd e z
    · exact Or.inl z
    · exact Or.inr z
/-- the context of its body -/
def cxP (X : Cx) (A : Around) (s : Shared) (H : Hp) (scope : Scope) (x : Str) (f c' : Addr) : Cx :=
  { lamCx X A X.stack s H (fun _ _ _ => False) scope f c' with N := X.N ++ [x], xe := fun _ _ => False }
section
variable {X : Cx} {pins : List (Addr × Obj)} {σ : L2.St} {H : Hp} {s : Shared}
theorem LamP.has {scope : Scope} {x : Str} (L : LamP X.env.scope scope x) (ok : X.Ok) : ∀ y ∈ scope.names, y.2 = .free → ∃ c, X.env.cells.lookup y.1 = some c := fun y hy e => ok.has _ (L.from_ y hy e)
theorem startP {A : Around} {scope : Scope} {x : Str} {f c' : Addr} {g : Heap} {tk : Nat} {v : V} {u : Value} (I : Inv X pins σ H s) (L : LamP X.env.scope scope x) (nx : x ∉ X.N) (e0 : Env0 X.prog X.w X.K X.mg X.base A X.stack s H) (hd : A.handled = none)
    (rv : RelV v u) (hns : g.Ns s.heap.objs.size fun y => [(x, u)].reverse.lookup y) (kp : ∀ b o, s.heap.get? b = some o → g.get? b = some o) : Inv (cxP X A s H scope x f c') [] (σ ++ [some v]) H { s with heap := g, toks := tk } := by
  have full := L.has I.ok
  have back : ∀ {y c}, (cloFrom X.env.cells scope.names []).lookup y = some c → X.env.cells.lookup y = some c := by
    intro y c e
    rcases cloFrom_mem (PySem.mem_of_lookup e) with m | ⟨m, e2⟩
    · cases m
    · obtain ⟨d, hd⟩ := full _ m rfl
      have hd' : X.env.cells.lookup y = some d := hd
      rw [hd'] at e2
      rw [hd', e2]
      rfl
  have cellK : ∀ {c : Addr} {z : Option Value}, s.heap.IsCell c z → g.IsCell c z := by
    rintro c z ⟨o, ho, e⟩
    exact ⟨o, kp _ _ ho, e⟩
  have noE : ∀ b : Addr, b ∉ (cxP X A s H scope x f c').ex := fun b z => by cases (show b ∈ ([] : List Addr) from z)
  have lenN := I.len
  refine ⟨⟨e0.mod, L.kind, rfl, rfl, Nat.le_refl _, fun y z c p q => I.ok.inj y z c (back p) (back q), ?_, ?_, fun _ => hd, Around.frames_deeper e0.1, Or.inr ⟨rfl, rfl⟩,
      fun b z => absurd z (noE b), e0.bs, e0.bsz, fun b _ _ => noE b, fun b z => absurd z (noE b), e0.funs, e0.frf⟩, rfl, e0.bare, Un.kept kp, ⟨_, hns, ?_⟩, ?_, e0.hok.fresh (Nat.le_refl _), ?_, ?_, e0.hok.kept kp, ?_⟩
  · intro y hy
    have hy : scope.names.lookup y = some .cell ∨ scope.names.lookup y = some .free := hy
    rcases hy with hy | hy
    · exact absurd rfl (L.only _ (PySem.mem_of_lookup hy)).1
    · exact mem_lookup (cloFrom_has (cells := X.env.cells) (acc := []) (PySem.mem_of_lookup hy))
  · intro y c z
    cases (show false = true from z)
  · intro i y w' e1 e2 vis
    have e1 : (X.N ++ [x])[i]? = some y := e1
    have vis : Vis scope y := vis
    rcases Nat.lt_or_ge i X.N.length with li | ge
    · rw [List.getElem?_append_left li] at e1
      rw [List.getElem?_append_left (by omega)] at e2
      have ny : y ≠ x := fun z => nx (by rw [← z]; exact List.mem_of_getElem? e1)
      rcases vis with k | k | k
      · exact absurd ((L.only _ (PySem.mem_of_lookup k)).2 rfl) ny
      · exact absurd rfl (L.only _ (PySem.mem_of_lookup k)).1
      · obtain ⟨m, hn, hl⟩ := I.loc
        have see : Vis X.env.scope y := by
          rcases L.from_ _ (PySem.mem_of_lookup k) rfl with z | z
          · exact Or.inr (Or.inl z)
          · exact Or.inr (Or.inr z)
        obtain ⟨u', r, q⟩ := hl i y w' e1 e2 see
        obtain ⟨c2, h2⟩ := mem_lookup (cloFrom_has (cells := X.env.cells) (acc := []) (PySem.mem_of_lookup k))
        refine ⟨u', r, Or.inr ⟨Or.inr k, c2, h2, ?_⟩⟩
        have c1 := back h2
        rcases q with ⟨k', _⟩ | ⟨_, c3, e', z⟩
        · have k' : X.env.scope.names.lookup y = some .local := k'
          rcases L.from_ _ (PySem.mem_of_lookup k) rfl with k2 | k2 <;> rw [show X.env.scope.names.lookup y = _ from k2] at k' <;> cases k'
        · rw [c1] at e'
          cases e'
          exact cellK z
    · have hi : i = X.N.length := by
        have z := (List.getElem?_eq_some_iff.mp e1).1
        rw [List.length_append, List.length_singleton] at z
        omega
      subst hi
      rw [List.getElem?_append_right (Nat.le_refl _), Nat.sub_self] at e1
      rw [List.getElem?_append_right (by omega), show X.N.length - σ.length = 0 by omega] at e2
      cases e1
      cases e2
      exact ⟨u, rv, Or.inl ⟨L.mine, by simp⟩⟩
  · intro y c e
    obtain ⟨z, q⟩ := I.cell y c (back e)
    exact ⟨z, cellK q⟩
  · intro y c e
    exact I.freeC y c (back e)
  · intro p hp
    cases (show p ∈ ([] : List (Addr × Obj)) ++ [] from hp)
  · show (σ ++ [some v]).length = (X.N ++ [x]).length
    rw [List.length_append, List.length_append, lenN]
    rfl
/-- such a lambda called by a built-in function -/
theorem callP {params : Arguments} {body : Expr} {scope : Scope} {x : Str} {f c' : Addr} {pm ctv : Value} {k : Nat} {tb : TE} {v : V} {u : Value} {Q : VK} (I : Inv X pins σ H s) (L : LamP X.env.scope scope x) (nx : x ∉ X.N)
    (hf : s.heap.get? f = some (PySem.W.kla_obj "<lambda>" (X.env.qual ++ "<lambda>") params body scope (cloFrom X.env.cells scope.names []) pm c' ctv)) (hco : H c' = some (CodeO c' (X.env.qual ++ "<lambda>")))
    (hbind : bindArgs (PySem.W.kla_fn "<lambda>" (X.env.qual ++ "<lambda>") params body scope (cloFrom X.env.cells scope.names []) pm (.ref c') ctv) ⟨[u], []⟩ = pure [(x, u)]) (room : Room (k + 3) X.A)
    (hbody : ∀ (A : Around) (s : Shared) (H : Hp), Room k (A.deeper (lamEnv X scope s.heap.objs.size f c')) → PE (cxP X A s H scope x f c') body tb) (rv : RelV v u) (ht : tb (σ ++ [some v]) H Q) :
    wpAny (model X.prog X.w) X.A.in1.in1 (call (.ref f) [u]) (fun r s2 => CE X.stack X.prog X.w H s Q r s2) (fun _ _ => False) s := by
  have r1 : Room (k + 1) X.A.in1.in1 := Room.in1 (Room.in1 room)
  have e0 : Env0 X.prog X.w X.K X.mg X.base X.A.in1.in1 X.stack s H := ⟨I.env0.1, I.env0.mod, I.env0.bs, I.env0.bsz, I.env0.funs, I.env0.frf, I.env0.hok, I.env0.bare⟩
  obtain ⟨⟨oc, fs, t, hoc, hdc, hvc⟩, _, _⟩ := I.hok c' _ hco
  have run : codeAny (model X.prog X.w) X.A.in1.in1 (.call (.ref f) ⟨[u], []⟩) (fun r s2 => ∃ z, r = .ok (.ret z) ∧ CE X.stack X.prog X.w H s Q z s2) s := by
    refine PySem.W.kla_callFunE r1.depth hf rfl L.co L.gen rfl ⟨c', oc, fs, t, rfl, hoc, hdc, hvc⟩ ?_
    rw [hbind]
    refine wpAny_pure (wpAny_newFunctionEnv (fun y hy => (L.only y hy).1) (fun y hy => ?_) (fun g hns hsb => ⟨I.nolimit.fresh _ hsb, ?_⟩) L.kind)
    · rw [List.mem_singleton] at hy
      rw [hy]
      exact L.mine
    · show codeAny _ _ (.expr body (lamEnv X scope s.heap.objs.size f c')) _ _
      have kp : ∀ b o, s.heap.get? b = some o → g.get? b = some o := fun b o e => hsb.extBut b o (Nat.ne_of_lt (Heap.lt_size e)) (Heap.get?_push_of_some _ e)
      have J := startP (f := f) (c' := c') (tk := s.toks + ([(x, u)] : List (Str × Value)).length) I L nx e0 r1.hd rv hns kp
      refine PySem.W.kla_codeExpr (wpAny_mono ((hbody _ s H (r1.deeper _)).run [] _ _ H Q J ht) (fun z s2 hq => ?_) fun _ _ hq => False.elim hq)
      obtain ⟨z', H', J', rz, q⟩ := hq
      exact ⟨z, rfl, z', H', J'.os, J'.bare, J'.base, J'.hok, rz, q⟩
  refine wpAny_call (codeAny_mono run fun r s2 hq => ?_)
  obtain ⟨z, rfl, hq⟩ := hq
  exact hq
end
end SL

namespace SL
open PySem PySem.Spec PyProof.Rows L2 LamX PySem.W
/-- what a key is: a number, or two numbers -/
def KeyV (H : Hp) (z : V) (d : PyData) : Prop := (∃ i : Int, z = .int i ∧ d = .int i) ∨ ∃ (t : Addr) (i j : Int), z = .ref t ∧ H t = some (.tup [.int i, .int j]) ∧ d = .tuple [.int i, .int j]
theorem KeyV.same {H H' : Hp} {z : V} {d : PyData} (k : KeyV H z d) (s : Same H H') : KeyV H' z d := by
  rcases k with h | ⟨t, i, j, a, b, c⟩
  · exact Or.inl h
  · exact Or.inr ⟨t, i, j, a, s _ _ b, c⟩
theorem KeyV.reads {P : Program} {w : World} {H : Hp} {h : Heap} {z : V} {u : Value} {d : PyData} (k : KeyV H z d) (ok : HOk P w H h) (r : RelV z u) : ∃ as, Reads h u d as := by
  rcases k with ⟨i, rfl, rfl⟩ | ⟨t, i, j, rfl, ht, rfl⟩
  · obtain ⟨t, rfl⟩ := r
    exact ⟨_, .int i t⟩
  · obtain rfl : u = Value.ref t := r
    obtain ⟨_, its, rv, ob, e, cl, n, dat⟩ := ok t _ ht
    cases rv with
    | cons r1 t1 =>
      cases t1 with
      | cons r2 t2 =>
        cases t2
        obtain ⟨t1, rfl⟩ := r1
        obtain ⟨t2, rfl⟩ := r2
        exact ⟨_, .tuple e cl dat (.cons (.int i t1) (.cons (.int j t2) .nil))⟩
section
variable {X : Cx} {pins : List (Addr × Obj)} {σ : L2.St} {H H0 : Hp} {s s0 : Shared}
/-- objects that are newer than s0, untracked, are written -/
theorem inv_new {g : Heap} {tk : Nat} {ch : List Addr} (I0 : Inv X pins σ H0 s0) (I : Inv X pins σ H s) (new : ∀ b ∈ ch, s0.heap.objs.size ≤ b) (un : ∀ b ∈ ch, H b = none) (kp : ∀ b o, b ∉ ch → s.heap.get? b = some o → g.get? b = some o) :
    Inv X pins σ H { s with heap := g, toks := tk } := by
  have far : ∀ b ∈ ch, ∀ c, c < s0.heap.objs.size → c ≠ b := fun b hb c l z => by
    have := new b hb
    rw [← z] at this
    exact Nat.lt_irrefl _ (Nat.lt_of_lt_of_le l this)
  have nl : X.env.locals ∉ ch := fun z => far _ z _ I0.lt rfl
  refine I.step (g' := s.gens) (d' := s.drawn) (ch := ch) (fun b hb => ⟨Or.inr (Nat.le_trans I0.sz (new b hb)), fun z => far b hb _ I0.lt z.symm, fun y c e => ?_, fun p hp => ?_⟩) (fun b o _ _ nb e _ => kp b o nb e) (fun b o _ _ nb e _ => ⟨o.slots, kp b o nb e⟩) (fun b o _ _ n => n) (fun b o nb e => ⟨o, kp b o nb e⟩) (fun _ _ e => e) (fun _ _ _ e => e)
    (fun b ps e => ⟨#[], by rw [e]; simp⟩) (fun m h => ?_) (fun b o e => ?_) I.bare
  · obtain ⟨v, o, ho, _⟩ := I0.cell y c e
    exact far b hb c (Heap.lt_size ho)
  · exact far b hb _ (Heap.lt_size (I0.pin p hp).1)
  · obtain ⟨o, es, ep, ho, r⟩ := h
    exact ⟨o, es, ep, kp _ _ nl ho, r⟩
  · have nb : ∀ d u, H d = some u → d ∉ ch := fun d u e z => by
      rw [un d z] at e
      cases e
    refine (I.hok b o e).stay (fun d v hd q => kp d v ?_ q) (fun _ q => q) fun _ _ q => q
    rcases hd with z | z
    · rw [z]
      exact nb b o e
    · exact nb d _ z
/-- such an object is tracked from now on -/
theorem inv_lay {a : Addr} {o : HO} (I0 : Inv X pins σ H0 s0) (I : Inv X pins σ H s) (new : s0.heap.objs.size ≤ a) (un : H a = none) (ok : ObjOk X.prog X.w (upd H a o) s.heap a o) : Inv X pins σ (upd H a o) s := by
  have far : ∀ c, c < s0.heap.objs.size → c ≠ a := fun c l z => by
    rw [z] at l
    exact Nat.lt_irrefl _ (Nat.lt_of_lt_of_le l new)
  refine I.step (h' := s.heap) (t' := s.toks) (g' := s.gens) (d' := s.drawn) (ch := [a]) (fun b hb => ?_) (fun b o _ _ _ e _ => e) (fun b o _ _ _ e _ => ⟨o.slots, e⟩) (fun b o nb _ n => ?_) (fun b o _ e => ⟨o, e⟩) (fun b xs e => ?_) (fun b u v e => ?_) (fun b ps e => ⟨#[], ?_⟩) (fun m h => h) (fun b u e => ?_) I.bare
  · rw [List.mem_singleton.mp hb]
    refine ⟨Or.inr (Nat.le_trans I0.sz new), fun z => far _ I0.lt z.symm, fun y c e => ?_, fun p hp => far _ (Heap.lt_size (I0.pin p hp).1)⟩
    obtain ⟨v, o, ho, _⟩ := I0.cell y c e
    exact far c (Heap.lt_size ho)
  · rw [upd_ne (fun z => nb (by rw [z]; simp))]
    exact n
  · rw [upd_ne (ne_of_none e un)]
    exact e
  · rw [upd_ne (ne_of_none e un)]
    exact e
  · rw [upd_ne (ne_of_none e un), e]
    simp
  · by_cases z : b = a
    · subst z
      rw [upd_same] at e
      cases e
      exact ok
    · rw [upd_ne z] at e
      exact (I.hok b u e).stay (fun _ _ _ q => q) (fun c q => by rw [upd_ne (ne_of_none q un)]; exact q) fun c xs q => by rw [upd_ne (ne_of_none q un)]; exact q
theorem inv_apart (I0 : Inv X pins σ H0 s0) {b : Addr} (h : s0.heap.objs.size ≤ b) : b ∉ frs X.stack := fun z => by
  rcases List.mem_cons.mp (I0.stkSub _ z) with e | e
  · have l := I0.lt
    rw [← e] at l
    exact Nat.lt_irrefl _ (Nat.lt_of_lt_of_le l h)
  · exact I0.nofs h e
end
theorem vals_snoc {z : V} {u : Value} (r : RelV z u) : ∀ {zs : List V} {us : List Value}, Vals zs us → Vals (zs ++ [z]) (us ++ [u])
  | _, _, .nil => .cons r .nil
  | _, _, .cons a b => .cons a (vals_snoc r b)
theorem vals_each : ∀ {vs : List Value} {ns : List Nat}, EachIs (fun (v : Value) (i : Nat) => ∃ t, v = .int (i : Int) t) vs ns → Vals (ns.map fun i : Nat => V.int (i : Int)) vs
  | _, _, .nil => .nil
  | _, _, .cons a b => .cons a (vals_each b)
theorem each_by {α β : Type} {R : α → β → Prop} : ∀ {as : List α} {bs : List β}, as.length = bs.length → (∀ (i : Nat) (a : α) (b : β), as[i]? = some a → bs[i]? = some b → R a b) → EachIs R as bs
  | [], [], _, _ => .nil
  | [], _ :: _, h, _ => by cases h
  | _ :: _, [], h, _ => by cases h
  | a :: as, b :: bs, h, r => .cons (r 0 a b rfl rfl) (each_by (by simpa using h) fun i x y hx hy => r (i + 1) x y hx hy)
theorem each_range {m : Nat} {vs : List Value} (len : vs.length = m) (items : ∀ (i : Nat) (x : Value), vs[i]? = some x → ∃ t, x = .int i t) : EachIs (fun (v : Value) (i : Nat) => ∃ t, v = .int (i : Int) t) vs (List.range m) := by
  refine each_by (by rw [List.length_range]; exact len) fun i v j hv hj => ?_
  obtain ⟨l1, l2⟩ := List.getElem?_eq_some_iff.mp hj
  rw [List.getElem_range] at l2
  subst l2
  exact items _ v hv
theorem each_reads {P : Program} {w : World} {H : Hp} {h : Heap} {zs : List V} {ks : List Value} {kz : List PyData} (ok : HOk P w H h) (r : Vals zs ks) (l : ks.length = kz.length) (kv : ∀ (i : Nat) (z : V) (d : PyData), zs[i]? = some z → kz[i]? = some d → KeyV H z d) :
    EachIs (fun v d => ∃ as, Reads h v d as) ks kz := by
  refine each_by l fun i u d hu hd => ?_
  have lz := r.length
  have li := (List.getElem?_eq_some_iff.mp hu).1
  obtain ⟨u', hu', rz⟩ := r.get (i := i) (List.getElem?_eq_getElem (by omega))
  rw [hu] at hu'
  cases hu'
  exact (kv i _ d (List.getElem?_eq_getElem (by omega)) hd).reads ok rz
/-! ### sorted(range(e), key = lambda x: body) -/
def tSortKey (T : List (Addr × Str)) (ta tb : TE) : TE := fun σ H Q => ta σ H fun n H1 => ∃ m : Nat, n = .int m ∧ m ≤ 1000 ∧ Tabs T H1 ∧ ∀ H2 : Hp, ExtN H1 H2 → Tabs T H2 →
  ∃ k : Nat → PyData, AllAlike ((List.range m).map k) ∧ Sortable ((List.range m).map k) ∧ (∀ i : Nat, (k i).depth ≤ 20) ∧ (∀ (i : Nat) (H3 : Hp), i < m → Same H2 H3 → tb (σ ++ [some (.int i)]) H3 fun z H4 => Same H3 H4 ∧ KeyV H4 z (k i)) ∧
    ∀ (H3 : Hp) (p : Addr), Same H2 H3 → H3 p = none → Q (.ref p) (upd H3 p (.lst (((List.range m).mergeSort (dataLe false k)).map fun i : Nat => V.int (i : Int))))
theorem pe_sortKey {X : Cx} {T : List (Addr × Str)} {e body : Expr} {ta tb : TE} {x : Str} {params : Arguments} {scope : Scope} {k : Nat} {c Pt : Addr} {p1 p2 p3 p4 p5 pos : Pos} (calm : X.calm = true) (g1 : Gl X "sorted") (m1 : X.mg "sorted" = none) (g2 : Gl X "range") (m2 : X.mg "range" = none)
    (ha : PE X e ta) (TB : TabB X.base X.mg c Pt) (hcode : X.env.code = .ref c) (hT : (Pt, X.env.qual ++ "<lambda>") ∈ T) (hu : ∀ p ∈ T, p.1 = Pt → p.2 = X.env.qual ++ "<lambda>") (room : Room (k + 3) X.A) (L : LamP X.env.scope scope x) (nx : x ∉ X.N) (hdef : defaultsOf params X.env = ([], []))
    (hbind : ∀ (q : Str) (cl : List (Str × Addr)) (pm cv ctv u : Value), bindArgs (kla_fn "<lambda>" q params body scope cl pm cv ctv) ⟨[u], []⟩ = pure [(x, u)])
    (hbody : ∀ (A : Around) (s : Shared) (H : Hp) (f c' : Addr), Room k (A.deeper (lamEnv X scope s.heap.objs.size f c')) → PE (cxP X A s H scope x f c') body tb)
    (na : starEach [e] X.env = (false, eval e X.env) :: starEach [] X.env := by rfl)
    (he : backTo pos (starEach [.Call (.Name "range" p2) [e] [] p3] X.env) = (false, eval (.Call (.Name "range" p2) [e] [] p3) X.env) :: backTo pos (starEach [] X.env) := by rfl) :
    PE X (.Call (.Name "sorted" p1) [.Call (.Name "range" p2) [e] [] p3] [⟨some "key", .Lambda params body scope p4, p5⟩] pos) (tSortKey T ta tb) := by
  refine ⟨fun pins s σ H Q I h => ?_⟩
  refine wpAny_Call_Name_kw (ld_blt (u := .builtin "sorted") I g1 m1 (by decide +kernel) ?_)
  refine callWith_kw ?_ he
  rw [he]
  refine Calls.spliced_cons (Call_ (ld_blt I g2 m2 boot_range (callWith_type1 (one_arg ha I h (fun v s1 n H1 I1 r1 q1 => ?_) na) na)))
  obtain ⟨m, rfl, few, tabs, q⟩ := q1
  obtain ⟨t, rfl⟩ := r1
  refine call_range_1 (Calls.spliced_nil ?_)
  have hR : IsRange (s1.heap.push { cls := .type "range", data := .fields #[.int 0 s1.toks, .int m t, .int 1 (s1.toks + 1)] }) s1.heap.objs.size 0 m 1 s1.toks t (s1.toks + 1) := IsRange.new _ _ _ _ _ _ _
  have I1' : Inv X pins σ H1 { s1 with heap := s1.heap.push { cls := .type "range", data := .fields #[.int 0 s1.toks, .int m t, .int 1 (s1.toks + 1)] }, toks := s1.toks + 1 + 1 } := I1.kept fun b u e => Heap.get?_push_of_some _ e
  have fresh : H1 s1.heap.objs.size = none := I1.hok.fresh (Nat.le_refl _)
  have Ip := I1'.pins_of (pins' := (s1.heap.objs.size, _) :: pins) (fun p hp => by
    rcases List.mem_cons.mp hp with z | z
    · rw [z]
      exact ⟨hR, fresh, Nat.ne_of_gt I1.lt, I1.nofs (Nat.le_refl _), fun v z => by cases z⟩
    · exact I1'.pin p (List.mem_append_right _ z))
  show wpAny _ _ (evalAll ((do let v ← eval (.Lambda params body scope p4) X.env; standAt pos; pure v) :: [])) _ _ _
  refine wpAny_evalAll_cons (wpAny_bind (lam_make2 Ip TB hcode hT hu tabs hdef (L.has I.ok) fun f c' pm ctv H2 s2 I2 ext tabs2 hf hfn hfr hco => wpAny_bind (wpAny_standAt (wpAny_pure (wpAny_evalAll_nil ?_)))))
  have hR2 := (I2.pin (s1.heap.objs.size, _) (List.mem_append_right _ List.mem_cons_self)).1
  have I3 : Inv X pins σ H2 s2 := I2.pins_of fun p hp => I2.pin p (List.mem_append_right _ (List.mem_cons_of_mem _ hp))
  obtain ⟨kk, al, so, dep, bodies, q⟩ := q H2 ext tabs2
  have rg : RgOk 0 (m : Int) := RgOk.of_le (by omega) (by omega) (by omega) (by omega)
  show wpAny _ _ (call (.builtin "sorted") [.ref s1.heap.objs.size] [(Str.ofString "key", .ref f)]) _ _ _
  refine sorted_made (kz := (List.range m).map kk) (m := m) (room.hd) hR2 rg (by omega) al so (fun d hd => ?_) (fun g tk vs keep len items => ?_)
  · obtain ⟨i, _, rfl⟩ := List.mem_map.mp hd
    have := dep i
    have := room.un
    omega
  have I0 : Inv X pins σ H2 { s2 with heap := g, toks := tk } := I3.kept keep
  have fg := keep _ _ hf
  have lf : f < g.objs.size := Heap.lt_size fg
  refine ⟨fun y ks s3 => (g.objs.size ≤ y ∧ y ≠ g.objs.size) ∧ ∃ H3 : Hp, Inv X pins σ H3 s3 ∧ Same H2 H3 ∧ H3 g.objs.size = none ∧ H3 y = none ∧ H3 f = none ∧ s3.heap.get? f = some (kla_obj "<lambda>" (X.env.qual ++ "<lambda>") params body scope (cloFrom X.env.cells scope.names []) pm c' ctv) ∧
      ∃ zs : List V, Vals zs ks ∧ ∀ (i : Nat) (z : V), zs[i]? = some z → KeyV H3 z (kk i), ⟨?_, ?_, ?_, ?_⟩, ?_⟩
  · intro y g2 ly ny kp
    have ly' : g.objs.size ≤ y := Nat.le_of_succ_le (by rw [size_push'] at ly; exact ly)
    have kp2 : ∀ b o, g.get? b = some o → g2.get? b = some o := fun b o e => kp b o (Nat.ne_of_lt (Heap.lt_size e)) (Heap.get?_push_of_some _ e)
    exact ⟨⟨ly', ny⟩, H2, I0.kept (t' := tk) kp2, fun _ _ e => e, I0.hok.fresh (Nat.le_refl _), I0.hok.fresh ly', hfn, kp2 _ _ fg, [], .nil, fun i z e => by simp at e⟩
  · rintro y ks s3 g2 ⟨⟨ly, ny⟩, H3, J, sm, na3, ny3, nf3, hf3, zs, rel, kv⟩ bt
    have fa : f ≠ g.objs.size := Nat.ne_of_lt lf
    have fy : f ≠ y := Nat.ne_of_lt (Nat.lt_of_lt_of_le lf ly)
    refine ⟨⟨ly, ny⟩, H3, inv_new (tk := s3.toks) (ch := [g.objs.size, y]) I0 J (fun b hb => ?_) (fun b hb => ?_) (fun b o nb e => bt b o (fun z => nb (by rw [z]; simp)) (fun z => nb (by rw [z]; simp)) e), sm, na3, ny3, nf3, bt _ _ fa fy hf3, zs, rel, kv⟩
    · simp only [List.mem_cons, List.not_mem_nil, or_false] at hb
      rcases hb with z | z
      · rw [z]
        exact Nat.le_refl _
      · rw [z]
        exact ly
    · simp only [List.mem_cons, List.not_mem_nil, or_false] at hb
      rcases hb with z | z
      · rw [z]
        exact na3
      · rw [z]
        exact ny3
  · rintro y ks s3 v oa oy hv ⟨⟨ly, ny⟩, H3, J, sm, na3, ny3, nf3, hf3, zs, rel, kv⟩ hoa hoy
    obtain ⟨t', rfl⟩ := items _ _ hv
    have li : ks.length < m := by
      have := (List.getElem?_eq_some_iff.mp hv).1
      omega
    refine thn (callP (k := k) (v := .int ks.length) J L nx hf3 (sm _ _ hco) (hbind _ _ _ _ _ _) room (fun A s H r => hbody A s H f c' r) ⟨t', rfl⟩ (bodies ks.length H3 li sm)) fun u s4 h4 => ?_
    obtain ⟨z, H4, os, bare, un, hok, rz, sm4, kz⟩ := h4
    have aw : g.objs.size ∉ frs X.stack := inv_apart I0 (Nat.le_refl _)
    have yw : y ∉ frs X.stack := inv_apart I0 ly
    have fw_ : f ∉ frs X.stack := hfr
    refine ⟨⟨⟨ly, ny⟩, H4, J.call' (ch := []) os un hok bare (fun b h => by cases h), sm.trans sm4, un.free _ _ hoa na3 (by simp), un.free _ _ hoy ny3 (by simp), un.free _ _ hf3 nf3 (by simp), un.keep _ _ hf3 nf3 fw_ (by simp), zs ++ [z], ?_, fun i z' e => ?_⟩, un.keep _ _ hoa na3 aw (by simp), un.keep _ _ hoy ny3 yw (by simp)⟩
    · exact vals_snoc rz rel
    · have lz : zs.length = ks.length := rel.length
      rcases Nat.lt_or_ge i zs.length with l | ge
      · rw [List.getElem?_append_left l] at e
        exact (kv i z' e).same sm4
      · have ei : i = zs.length := by
          have := (List.getElem?_eq_some_iff.mp e).1
          rw [List.length_append, List.length_singleton] at this
          omega
        subst ei
        rw [List.getElem?_append_right (Nat.le_refl _), Nat.sub_self] at e
        cases e
        rw [lz]
        exact kz
  · rintro y ks s3 ⟨_, H3, J, sm, na3, ny3, nf3, hf3, zs, rel, kv⟩ lk
    refine each_reads J.hok rel (by rw [List.length_map, List.length_range]; omega) fun i z d hz hd => ?_
    rw [List.getElem?_map] at hd
    obtain ⟨i', hi', rfl⟩ := Option.map_eq_some_iff.mp hd
    have : i' = i := by
      have l := (List.getElem?_eq_some_iff.mp hi')
      obtain ⟨l1, l2⟩ := l
      rw [List.getElem_range] at l2
      exact l2.symm
    subst this
    exact kv _ _ hz
  · rintro y ks s3 h2 out tk2 cn ⟨⟨ly, ny⟩, H3, J, sm, na3, ny3, nf3, hf3, zs, rel, kv⟩ bt hL ko
    have each : EachIs (fun (v : Value) (i : Nat) => ∃ t, v = .int (i : Int) t) vs (List.range m) := each_range len items
    have each2 := keyedOut_each kk ko each
    have J2 : Inv X pins σ H3 { s3 with heap := h2, toks := tk2 } := inv_new (ch := [g.objs.size, y]) I0 J (fun b hb => by
        simp only [List.mem_cons, List.not_mem_nil, or_false] at hb
        rcases hb with z | z
        · rw [z]
          exact Nat.le_refl _
        · rw [z]
          exact ly) (fun b hb => by
        simp only [List.mem_cons, List.not_mem_nil, or_false] at hb
        rcases hb with z | z
        · rw [z]
          exact na3
        · rw [z]
          exact ny3) (fun b o nb e => bt b o (fun z => nb (by rw [z]; simp)) (fun z => nb (by rw [z]; simp)) e)
    refine ⟨.ref g.objs.size, upd H3 g.objs.size (.lst (((List.range m).mergeSort (dataLe false kk)).map fun i : Nat => V.int (i : Int))), inv_lay I0 J2 (Nat.le_refl _) na3 ⟨?_, out, cn, vals_each each2, hL⟩, rfl, q H3 _ sm na3⟩
    rw [List.length_map, List.length_mergeSort, List.length_range, sizeLine_eq]
    omega
end SL

namespace SL
open PySem PySem.Spec PyProof.Rows L2 LamX PySem.W
/-! ### the law's own call, with the tables of the defs that hold a lambda -/
theorem lawGT {P : Program} {w : World} {K : PySem.W.Frag} {mg mb : Str → Option Value} {k : Nat} {fa a : Addr} {fd : FuncData} {x : Str} {sp : Sp} {cs : List (Addr × Addr)}
    {s₁ : Shared} {vs : List Value} {ns : List Int} (inK : K.In s₁.heap) (gl : s₁.heap.Ns mainGlobals mg) (bl : s₁.heap.Ns builtinsNs mb)
    (bb : ∀ x : Str, x ≠ "__name__" → mb x = bootBuiltins x) (lim : s₁.heap.NoLimit) (gens : s₁.gens = #[])
    (emp : ∀ p ∈ cs, s₁.heap.get? p.2 = some (tabObj #[])) (outT : ∀ p ∈ cs, K.lookup p.2 = none) (codes : ∀ p ∈ cs, CodeHd s₁.heap p.1 p.2)
    (main : ∃ (bm : Addr) (ob : Obj), mg "__builtins__" = some (.ref bm) ∧ bm ≠ builtinsNs ∧ s₁.heap.get? bm = some ob ∧ ob.cls = .type "module" ∧ ob.dict = some builtinsNs ∧ ob.data = .plain)
    (obj : s₁.heap.get? a = some { cls := .type "list", data := .seq vs.toArray }) (nums : IntsAre vs ns) (few : ns.length ≤ sizeLine) (room : Room k callerA)
    (F : ∀ base : Heap, K.In base → base.Ns mainGlobals mg → (∀ p ∈ cs, TabB base mg p.1 p.2) → FnG P w K mg base k fa fd [x] sp)
    (bound : ∀ (s : Shared) (u : Value), BindsTo s fd ⟨[u], []⟩ [(x, u)])
    (prom : ∀ H : Hp, (∀ p ∈ cs, H p.2 = some (.tbl #[])) → SqL K H a (ns.map V.int) → sp [.ref a] H (fun v _ => v = .bl true) E0) :
    codeAny (model P w) callerA (.call (.ref fa) ⟨[.ref a], []⟩)
      (fun r s' => r = .ok (.ret (.bool true)) ∧ OldK s₁.heap s'.heap ∧ s'.os = s₁.os ∧ AllBare s'.gens) s₁ := by
  have rel := vals_ints nums
  have empty : ∀ b : Addr, (∃ p ∈ cs, p.2 = b) → s₁.heap.get? b = some (tabObj #[]) := by
    rintro b ⟨p, hp, rfl⟩
    exact emp p hp
  have apart : ¬ ∃ p ∈ cs, p.2 = a := fun z => by
    have e := empty a z
    rw [obj] at e
    cases (show Data.seq vs.toArray _ = Data.fields #[] from congrArg Obj.data (Option.some.inj e))
  have inner : ∀ H : Hp, (∀ b, H b = none ∨ ((∃ p ∈ cs, p.2 = b) ∧ H b = some (.tbl #[])) ∨ (b = a ∧ ∃ ob xs, H b = some (.frz ob (.lst xs)))) → (∀ p ∈ cs, H p.2 = some (.tbl #[])) → SqL K H a (ns.map V.int) → HOk P w H s₁.heap → (H a ≠ none → K.lookup a = none) →
      codeAny (model P w) callerA (.call (.ref fa) ⟨[.ref a], []⟩) (fun r s' => r = .ok (.ret (.bool true)) ∧ OldK s₁.heap s'.heap ∧ s'.os = s₁.os ∧ AllBare s'.gens) s₁ := by
    intro H kinds tabs seq hok outA
    have other : ∀ {b : Addr} {o : Obj}, s₁.heap.get? b = some o → (∀ us n, o.data ≠ .seq us n) → o.data ≠ .fields #[] → H b = none := by
      intro b o e n1 n2
      rcases kinds b with z | ⟨z, _⟩ | ⟨rfl, _⟩
      · exact z
      · rw [empty b z] at e
        cases e
        exact absurd rfl n2
      · rw [obj] at e
        cases e
        exact absurd rfl (n1 _ _)
    have nsH : ∀ {b : Addr} {m : Str → Option Value}, s₁.heap.Ns b m → (hidT s₁.heap H).Ns b m := by
      rintro b m ⟨o, es, ep, e, d, r⟩
      refine ⟨o, es, ep, hidT_get e (other e (fun us n z => ?_) fun z => ?_), d, r⟩ <;> (rw [d] at z; cases z)
    have kH : K.In (hidT s₁.heap H) := by
      intro b o e
      refine hidT_get (inK b o e) ?_
      rcases kinds b with z | ⟨⟨p, hp, rfl⟩, _⟩ | ⟨rfl, ob, xs, z⟩
      · exact z
      · rw [outT p hp] at e
        cases e
      · rw [outA (by rw [z]; intro y; cases y)] at e
        cases e
    have limH : (hidT s₁.heap H).NoLimit := by
      obtain ⟨mc, h1, h2⟩ := lim
      exact ⟨mc, nsH h1, h2⟩
    have tb : ∀ p ∈ cs, TabB (hidT s₁.heap H) mg p.1 p.2 := by
      intro p hp
      have ep := emp p hp
      refine ⟨?_, ?_, fun z => ?_⟩
      · obtain ⟨o, us, f1, t1, f2, t2, b1, n1, t3, e1, e2, e3, e4, rest⟩ := codes p hp
        refine ⟨o, us, f1, t1, f2, t2, b1, n1, t3, hidT_get e1 (other e1 (fun vs n z => ?_) fun z => ?_), e2, e3, e4, rest⟩
        · rw [e3] at z
          cases z
        · rw [e3] at z
          cases z
          simp at e4
      · obtain ⟨bm, ob, m1, m2, m3, m4, m5, m6⟩ := main
        refine ⟨bm, ob, m1, m2, fun z => ?_, fun z => ?_, hidT_get m3 (other m3 (fun vs n z => ?_) fun z => ?_), m4, m5, m6⟩
        · obtain ⟨o, es, e', e, d, _⟩ := gl
          rw [z, e] at m3
          cases m3
          rw [d] at m6
          cases m6
        · rw [z, ep] at m3
          cases m3
          cases m6
        · rw [m6] at z
          cases z
        · rw [m6] at z
          cases z
      · obtain ⟨o, es, e', e, d, _⟩ := gl
        rw [z, ep] at e
        cases e
        cases d
    have env : Env0 P w K mg (hidT s₁.heap H) callerA [] s₁ H := by
      refine ⟨rfl, ⟨kH, nsH gl, ⟨mb, nsH bl, bb⟩, limH⟩, fun b o e => of_hidT e, Nat.le_of_eq (hidT_size _ _), trivial, ?_, hok, .of_eq gens⟩
      intro b hb
      cases (show b ∈ ([] : List Addr) from hb)
    have G := F _ kH (nsH gl) tb
    refine codeAny_mono (G.go callerA [] s₁ H ⟨[.ref a], []⟩ [.ref a] [.ref a] _ _ rfl room env (bound s₁ (.ref a)) (.cons rfl .nil) (prom H tabs seq)) ?_
    intro r s' h
    cases r with
    | error e => exact False.elim h
    | ok fl => cases fl with
      | next => exact False.elim h
      | brk => exact False.elim h
      | cont => exact False.elim h
      | ret u =>
        obtain ⟨v, H', os, bare, un, hok', r', q⟩ := h
        obtain rfl : v = .bl true := q
        obtain rfl : u = Value.bool true := r'
        have grown : ∀ p ∈ cs, ∃ more : Array Value, s'.heap.get? p.2 = some (tabObj more) := by
          intro p hp
          obtain ⟨more, z⟩ := un.tbls p.2 #[] (tabs p hp)
          exact ⟨_, hok' p.2 _ z⟩
        have stays : ∀ b o, (¬ ∃ p ∈ cs, p.2 = b) → s₁.heap.get? b = some o → s'.heap.get? b = some o := by
          intro b o nb e
          rcases kinds b with z | ⟨z, _⟩ | ⟨_, ob, xs, z⟩
          · exact un.keep b o e z (fun m => by cases (show b ∈ ([] : List Addr) from m)) (fun m => by cases m)
          · exact absurd z nb
          · obtain ⟨e1, _⟩ := hok b _ z
            obtain ⟨e2, _⟩ := hok' b _ (un.frzs b ob _ z)
            rw [e] at e1
            cases e1
            exact e2
        refine ⟨rfl, ⟨fun b o e => ?_, fun b o e => ?_⟩, os, bare⟩
        · by_cases z : ∃ p ∈ cs, p.2 = b
          · obtain ⟨p, hp, rfl⟩ := z
            obtain ⟨more, hm⟩ := grown p hp
            rw [emp p hp] at e
            cases e
            exact .inr (.inl ⟨((codes p hp).tab (emp p hp)).isCodeTable, rfl, #[], more, rfl, (by rw [Array.empty_append]; exact hm)⟩)
          · exact .inl (stays b o z e)
        · by_cases z : ∃ p ∈ cs, p.2 = b
          · obtain ⟨p, hp, rfl⟩ := z
            obtain ⟨more, hm⟩ := grown p hp
            exact ⟨_, hm⟩
          · exact ⟨o, stays b o z e⟩
  classical
  cases written : K.lookup a with
  | some o =>
    have e := inK a o written
    rw [obj] at e
    cases e
    have yes : ∀ b, (∃ p ∈ cs, p.2 = b) → (fun b => if ∃ p ∈ cs, p.2 = b then some (HO.tbl #[]) else none) b = some (HO.tbl #[]) := fun b z => if_pos z
    have no : ∀ b, (¬ ∃ p ∈ cs, p.2 = b) → (fun b => if ∃ p ∈ cs, p.2 = b then some (HO.tbl #[]) else none) b = none := fun b z => if_neg z
    refine inner (fun b => if ∃ p ∈ cs, p.2 = b then some (HO.tbl #[]) else none) (fun b => ?_) (fun p hp => yes _ ⟨p, hp, rfl⟩) (Or.inr ⟨_, vs.toArray, _, written, rfl, rfl, rfl, ?_, ?_⟩) (fun b u z => ?_) (fun z => absurd (no a apart) z)
    · by_cases z : ∃ p ∈ cs, p.2 = b
      · exact Or.inr (Or.inl ⟨z, yes b z⟩)
      · exact Or.inl (no b z)
    · rw [List.size_toArray, nums.length]; exact few
    · simpa using rel
    · by_cases y : ∃ p ∈ cs, p.2 = b
      · have z' := (yes b y).symm.trans z
        cases z'
        exact empty b y
      · have z' := (no b y).symm.trans z
        cases z'
  | none =>
    have at_ : ∀ b, b = a → (fun b => if b = a then some (HO.frz { cls := .type "list", data := .seq vs.toArray } (.lst (ns.map V.int))) else if ∃ p ∈ cs, p.2 = b then some (HO.tbl #[]) else none) b = some (HO.frz { cls := .type "list", data := .seq vs.toArray } (.lst (ns.map V.int))) := fun b z => if_pos z
    have yes : ∀ b, b ≠ a → (∃ p ∈ cs, p.2 = b) → (fun b => if b = a then some (HO.frz { cls := .type "list", data := .seq vs.toArray } (.lst (ns.map V.int))) else if ∃ p ∈ cs, p.2 = b then some (HO.tbl #[]) else none) b = some (HO.tbl #[]) := fun b y z => (if_neg y).trans (if_pos z)
    have no : ∀ b, b ≠ a → (¬ ∃ p ∈ cs, p.2 = b) → (fun b => if b = a then some (HO.frz { cls := .type "list", data := .seq vs.toArray } (.lst (ns.map V.int))) else if ∃ p ∈ cs, p.2 = b then some (HO.tbl #[]) else none) b = none := fun b y z => (if_neg y).trans (if_neg z)
    have ne : ∀ b, (∃ p ∈ cs, p.2 = b) → b ≠ a := fun b z y => apart (by rw [← y]; exact z)
    refine inner (fun b => if b = a then some (HO.frz { cls := .type "list", data := .seq vs.toArray } (.lst (ns.map V.int))) else if ∃ p ∈ cs, p.2 = b then some (HO.tbl #[]) else none) (fun b => ?_) (fun p hp => yes _ (ne _ ⟨p, hp, rfl⟩) ⟨p, hp, rfl⟩) (Or.inl (Or.inr ⟨_, at_ a rfl⟩)) (fun b u z => ?_) (fun _ => written)
    · by_cases y : b = a
      · exact Or.inr (Or.inr ⟨y, _, _, at_ b y⟩)
      · by_cases z : ∃ p ∈ cs, p.2 = b
        · exact Or.inr (Or.inl ⟨z, yes b y z⟩)
        · exact Or.inl (no b y z)
    · by_cases y : b = a
      · have z' := (at_ b y).symm.trans z
        cases z'
        subst y
        exact ⟨obj, by rw [List.length_map]; exact few, vs, _, rel, obj⟩
      · by_cases y2 : ∃ p ∈ cs, p.2 = b
        · have z' := (yes b y y2).symm.trans z
          cases z'
          exact empty b y2
        · have z' := (no b y y2).symm.trans z
          cases z'
theorem walkGT {l : PySem.W.OpenLaw} {n k : Nat} {q : Program} {loose : List Str} {XP : (Str → Option Value) → Heap → Prop} {YP : World → Heap → Prop}
    {d : DefRec} {K : Params → PySem.W.Frag} {sp : List (Addr × Addr) → PySem.W.Frag → Sp} {x : Str} (names : List Str) (most : l.most = some n) (few : n ≤ sizeLine)
    (plain : d.params.defaults = []) (room : Room k callerA) (inK : ∀ (w : World) (h : Heap), YP w h → (K w.params).In h) (recs : ∀ y ∈ names, ((recsOf q).find? fun e => e.name == y).isSome = true)
    (F : ∀ (w : World) (mg : Str → Option Value) (fa : Addr) (h : Heap), (K w.params).In h → h.Ns mainGlobals mg → mg d.name = some (.ref fa) →
      ∃ (cs : List (Addr × Addr)) (fd : FuncData), (∀ p ∈ cs, ∃ y ∈ names, tabIn (K w.params) y = some p) ∧ (∀ p ∈ cs, (K w.params).lookup p.2 = none) ∧ (∀ (s : Shared) (u : Value), BindsTo s fd ⟨[u], []⟩ [(x, u)]) ∧
        (∀ base : Heap, (K w.params).In base → base.Ns mainGlobals mg → (∀ p ∈ cs, TabB base mg p.1 p.2) → FnG l.prog w (K w.params) mg base k fa fd [x] (sp cs (K w.params))))
    (prom : ∀ (cs : List (Addr × Addr)) (K : PySem.W.Frag) (H : Hp) (a : Addr) (ns : List Int), ns.length ≤ n → (∀ p ∈ cs, H p.2 = some (.tbl #[])) → SqL K H a (ns.map V.int) →
      sp cs K [.ref a] H (fun v _ => v = .bl true) E0) :
    PySem.W.WalkO q loose XP YP l.row.toRowW d [] (fun f vs => PySem.call f vs) := by
  refine Att.attach_call most plain ?_
  intro w s₀ s₁ mg mb fa o pm cd doc a vs ns G Y ho hd hcd named obj nums len gens
  obtain ⟨cs, fd, from_, out, bound, hF⟩ := F w mg fa _ (inK w _ Y) G.T.g named
  have tabs : ∀ p ∈ cs, CodeHd s₁.heap p.1 p.2 ∧ s₁.heap.get? p.2 = some (tabObj #[]) := by
    intro p hp
    obtain ⟨y, hy, e⟩ := from_ p hp
    obtain ⟨r, hr⟩ := Option.isSome_iff_exists.mp (recs y hy)
    exact tab_of G.T (inK w _ Y) hr e
  exact lawGT (inK w _ Y) G.T.g G.T.b G.T.builtins G.T.nolimit gens (fun p hp => (tabs p hp).2) out (fun p hp => (tabs p hp).1) G.T.bmain obj nums (Nat.le_trans len few) room hF bound
    (fun H em seq => prom cs (K w.params) H a ns len em seq)
end SL

namespace SL
open PySem PySem.Spec PyProof.Rows L2
/-! ### the text -/
def topS (i : Nat) : Stmt := PySem.Challenge.pw_samelayout_k05_rules_of_orders.main.body.getD i (.Pass ⟨0, 0, 0, 0⟩)
abbrev sWithin : Stmt := topS 1
abbrev sRule : Stmt := topS 4
abbrev sSized : Stmt := topS 5
abbrev sTable : Stmt := topS 6
abbrev sAscending : Stmt := topS 7
abbrev sDecided : Stmt := topS 8
abbrev sRuleOf : Stmt := topS 9
abbrev sTableOf : Stmt := topS 10
abbrev sOrderAt : Stmt := topS 11
abbrev sRingAt : Stmt := topS 12
abbrev sOrdered : Stmt := topS 13
abbrev sPot : Stmt := topS 15
abbrev sTake : Stmt := topS 16
abbrev sMixed : Stmt := topS 17
abbrev sOrdTable : Stmt := topS 18
abbrev sRight : Stmt := topS 19
abbrev sLaw : Stmt := topS 20
theorem scTake : FnScope ["_law_pot_here", "_law_size", "_law_digit", "_law_prime", "_law_mixed_here"] ["_law_pot_here", "_law_size"] (defScope sTake) := ⟨rfl, rfl, rfl, by decide +kernel, rfl, by decide +kernel, by decide +kernel⟩
theorem scPot : FnScope ["_law_script", "_law_k", "_law_cell", "_law_great"] ["_law_script", "_law_k"] (defScope sPot) := ⟨rfl, rfl, rfl, by decide +kernel, rfl, by decide +kernel, by decide +kernel⟩

/-! ### heaps -/
/-- all but p is as it was -/
def Kp (p : Addr) (H H' : Hp) : Prop := ∀ b o, b ≠ p → H b = some o → H' b = some o
theorem Kp.refl (p : Addr) (H : Hp) : Kp p H H := fun _ _ _ h => h
theorem Kp.trans {p : Addr} {H H1 H2 : Hp} (a : Kp p H H1) (b : Kp p H1 H2) : Kp p H H2 := fun c o n h => b c o n (a c o n h)
theorem Kp.same {p : Addr} {H H' : Hp} (s : Same H H') : Kp p H H' := fun b o _ h => s b o h
theorem Kp.upd (p : Addr) (H : Hp) (o : HO) : Kp p H (upd H p o) := fun b u n h => by rw [upd_ne n]; exact h
theorem same_new {H : Hp} {p : Addr} {o : HO} (h : H p = none) : Same H (upd H p o) := fun b u e => by rw [upd_ne (ne_of_none e h)]; exact e
/-- a pot with n takes to come -/
def Pot (H : Hp) (p : Addr) (n : Nat) : Prop := ∃ g m c : Int, H p = some (.lst [.int g, .int m, .int c]) ∧ 0 ≤ g ∧ g < 10 ^ 180 ∧ 0 ≤ m ∧ m < 2 ^ 61 ∧ 0 ≤ c ∧ c + n ≤ 1000000
theorem Pot.less {H : Hp} {p : Addr} {n m : Nat} (h : Pot H p n) (l : m ≤ n) : Pot H p m := by
  obtain ⟨g, a, c, h1, h2, h3, h4, h5, h6, h7⟩ := h
  exact ⟨g, a, c, h1, h2, h3, h4, h5, h6, by omega⟩
theorem Pot.same {H H' : Hp} {p : Addr} {n : Nat} (h : Pot H p n) (s : Same H H') : Pot H' p n := by
  obtain ⟨g, a, c, h1, h2⟩ := h
  exact ⟨g, a, c, s _ _ h1, h2⟩
theorem Pot.lst {H : Hp} {p : Addr} {n : Nat} (h : Pot H p n) : ∃ xs, H p = some (.lst xs) := by
  obtain ⟨g, a, c, h1, h2⟩ := h
  exact ⟨_, h1⟩
section
variable {P : Program} {w : World} {K : PySem.W.Frag} {mg : Str → Option Value} {base : Heap}
/-! ### take -/
def spTake : Sp := fun vs H Q _ => ∃ (p : Addr) (z : Int) (n : Nat), vs = [.ref p, .int z] ∧ Pot H p (n + 1) ∧ 0 < z ∧ z ≤ 1000 ∧
  ∀ H' r, Kp p H H' → Pot H' p n → 0 ≤ r → r < z → Q (.int r) H'
theorem ok_take {f : Addr} {fd : FuncData} {k : Nat} (F : Fun K "_law_take" "_law_take" sTake f fd) : FnOk P w K mg base CX0 (k + 1) f fd ["_law_pot_here", "_law_size"] spTake := by
  refine F.ok scTake (fun vs H Q E h => ?_) (fun cdv A outer s H vs Q E hr h => ?_)
  · obtain ⟨p, z, n, rfl, _⟩ := h
    rfl
  · obtain ⟨p, z, n, rfl, hp, z0, z1, q⟩ := h
    obtain ⟨g, m, c, h1, g0, g1, m0, m1, c0, c1⟩ := hp
    refine ⟨_, pss_cons (ps_if (pt_cmpR op_gt (pe_ix ix_list (pv 0) pe_int (fun _ _ => rfl)) pe_int (nomark _))
        (pss_cons (ps_set (i := 2) scTake.nd rfl (.inl rfl) (pe_op op_mod (pe_ix ix_list (pv 0) pe_int (fun _ _ => rfl)) (pv 1)))
          (pss_cons (ps_asg (pe_op op_fdiv (pe_ix ix_list (pv 0) pe_int (fun _ _ => rfl)) (pv 1)) (pg_sub (pv 0) pe_int set_list))
            (pss_one (ps_ret (pv 2))))) pss_nil)
      (pss_cons (ps_asg (pe_op op_add (pe_ix ix_list (pv 0) pe_int (fun _ _ => rfl)) pe_int) (pg_sub (pv 0) pe_int set_list))
      (pss_cons (ps_set (i := 3) scTake.nd rfl (.inl rfl) (pe_ix ix_list (pe_lst (pa_cons pe_int (pa_cons pe_int (pa_cons pe_int (pa_cons pe_int (pa_cons pe_int pa_nil))))))
          (pe_op op_mod (pe_ix ix_list (pv 0) pe_int (fun _ _ => rfl)) pe_int) (fun _ _ => rfl)))
      (pss_cons (ps_set (i := 4) scTake.nd rfl (.inl rfl) (pe_op op_mod (pe_op op_pow (pe_op op_add (pe_op op_add (pe_ix ix_list (pv 0) pe_int (fun _ _ => rfl))
            (pe_op op_mul (pe_op op_mul pe_int (pe_ix ix_list (pv 0) pe_int (fun _ _ => rfl))) (pe_ix ix_list (pv 0) pe_int (fun _ _ => rfl)))) pe_int) pe_int) (pv 3)))
      (pss_one (ps_ret (pe_op op_mod (pe_op op_fdiv (pe_op op_mod (pe_op op_mul (pv 4) (pe_op op_add (pe_op op_mod (pv 4) pe_int)
            (pe_op op_mul pe_int (pe_ix ix_list (pv 0) pe_int (fun _ _ => rfl))))) pe_int) pe_int) (pv 1))))))), ?_⟩
    have hL : SqL K H p [.int g, .int m, .int c] := SqL.of h1
    refine ⟨.ref p, rfl, p, _, 0, .int g, rfl, rfl, hL, atI_nat (j := 0) rfl, _, _, rfl, rfl, _, rfl, ite2 (fun e => ?_) (fun e => ?_)⟩
    · refine ⟨.ref p, rfl, p, _, 0, .int g, rfl, rfl, hL, atI_nat (j := 0) rfl, .int z, rfl, g, z, rfl, rfl, z0, ?_⟩
      refine ⟨.ref p, rfl, p, _, 0, .int g, rfl, rfl, hL, atI_nat (j := 0) rfl, .int z, rfl, g, z, rfl, rfl, ⟨z0, by omega⟩, ?_⟩
      refine ⟨.ref p, rfl, p, _, 0, 0, rfl, rfl, h1, rfl, ?_⟩
      refine ⟨.int (g % z), rfl, ?_⟩
      refine q _ _ (Kp.upd p H _) ⟨g / z, m, c, upd_same, Int.ediv_nonneg g0 (by omega), ?_, m0, m1, c0, by omega⟩ (Int.emod_nonneg _ (by omega)) (Int.emod_lt_of_pos _ z0)
      exact Int.lt_of_le_of_lt (Int.ediv_le_self z g0) g1
    · -- pot[2] = pot[2] + 1
      refine ⟨.ref p, rfl, p, _, 2, .int c, rfl, rfl, hL, atI_nat (j := 2) rfl, c, 1, rfl, rfl, ?_⟩
      refine ⟨.ref p, rfl, p, _, 2, 2, rfl, rfl, h1, rfl, ?_⟩
      have h2 : upd H p (.lst ([V.int g, .int m, .int c].set 2 (.int (c + 1)))) p = some (.lst [.int g, .int m, .int (c + 1)]) := upd_same
      -- the prime
      refine ⟨Nat.le_of_lt (small1000 (by decide)), fun l hl => ?_⟩
      have ne : p ≠ l := fun e => by
        rw [← e, h2] at hl
        cases hl
      have h3 : upd (upd H p (.lst ([V.int g, .int m, .int c].set 2 (.int (c + 1))))) l (.lst [.int 2147483647, .int 2147483629, .int 2147483587, .int 2147483579, .int 2147483563]) p = some (.lst [.int g, .int m, .int (c + 1)]) := by
        rw [upd_ne ne]
        exact h2
      have hM : SqL K (upd (upd H p (.lst ([V.int g, .int m, .int c].set 2 (.int (c + 1))))) l (.lst [.int 2147483647, .int 2147483629, .int 2147483587, .int 2147483579, .int 2147483563])) p [.int g, .int m, .int (c + 1)] := SqL.of h3
      have hP : SqL K (upd (upd H p (.lst ([V.int g, .int m, .int c].set 2 (.int (c + 1))))) l (.lst [.int 2147483647, .int 2147483629, .int 2147483587, .int 2147483579, .int 2147483563])) l [.int 2147483647, .int 2147483629, .int 2147483587, .int 2147483579, .int 2147483563] := SqL.of upd_same
      have kp : Kp p H (upd (upd H p (.lst ([V.int g, .int m, .int c].set 2 (.int (c + 1))))) l (.lst [.int 2147483647, .int 2147483629, .int 2147483587, .int 2147483579, .int 2147483563])) := (Kp.upd p H _).trans (Kp.same (same_new hl))
      generalize upd (upd H p (.lst ([V.int g, .int m, .int c].set 2 (.int (c + 1))))) l (.lst [.int 2147483647, .int 2147483629, .int 2147483587, .int 2147483579, .int 2147483563]) = H2 at h3 hM hP kp ⊢
      have r0 : 0 ≤ (c + 1) % 5 := Int.emod_nonneg _ (by decide)
      have r1 : (c + 1) % 5 < 5 := Int.emod_lt_of_pos _ (by decide)
      obtain ⟨pr, hpr, p0, p1⟩ : ∃ pr : Int, atI [V.int 2147483647, .int 2147483629, .int 2147483587, .int 2147483579, .int 2147483563] ((c + 1) % 5) = some (.int pr) ∧ 0 < pr ∧ pr ≤ 2147483647 := by
        have cs : (c + 1) % 5 = 0 ∨ (c + 1) % 5 = 1 ∨ (c + 1) % 5 = 2 ∨ (c + 1) % 5 = 3 ∨ (c + 1) % 5 = 4 := by omega
        rcases cs with e | e | e | e | e <;> rw [e]
        · exact ⟨2147483647, atI_nat (j := 0) rfl, by decide, by decide⟩
        · exact ⟨2147483629, atI_nat (j := 1) rfl, by decide, by decide⟩
        · exact ⟨2147483587, atI_nat (j := 2) rfl, by decide, by decide⟩
        · exact ⟨2147483579, atI_nat (j := 3) rfl, by decide, by decide⟩
        · exact ⟨2147483563, atI_nat (j := 4) rfl, by decide, by decide⟩
      refine ⟨.ref p, rfl, p, _, 2, .int (c + 1), rfl, rfl, hM, atI_nat (j := 2) rfl, c + 1, 5, rfl, rfl, (show (0 : Int) < 5 by decide), ?_⟩
      refine ⟨l, _, _, .int pr, rfl, rfl, hP, hpr, ?_⟩
      -- mixed
      have b1 : 40009 * (c + 1) ≤ 40009 * 1000000 := by omega
      have b2 : 0 ≤ 40009 * (c + 1) := by omega
      have b3 : 0 ≤ 40009 * (c + 1) * (c + 1) := Int.mul_nonneg b2 (by omega)
      have b4 : 40009 * (c + 1) * (c + 1) ≤ (40009 * 1000000) * 1000000 := Int.mul_le_mul b1 (by omega) (by omega) (by decide)
      refine ⟨.ref p, rfl, p, _, 1, .int m, rfl, rfl, hM, atI_nat (j := 1) rfl, .ref p, rfl, p, _, 2, .int (c + 1), rfl, rfl, hM, atI_nat (j := 2) rfl, 40009, c + 1, rfl, rfl, .inl ⟨by decide, by decide⟩,
        .ref p, rfl, p, _, 2, .int (c + 1), rfl, rfl, hM, atI_nat (j := 2) rfl, _, c + 1, rfl, rfl, .inl ⟨by omega, by omega⟩, m, _, rfl, rfl, _, 31, rfl, rfl, _, 3, rfl, rfl, ⟨by decide, by decide, by omega⟩, .int pr, rfl, _, pr, rfl, rfl, p0, ?_⟩
      generalize (m + 40009 * (c + 1) * (c + 1) + 31) ^ (3 : Int).toNat = y
      have y0 : 0 ≤ y % pr := Int.emod_nonneg _ (by omega)
      have y1 : y % pr < pr := Int.emod_lt_of_pos _ p0
      have v0 : 0 ≤ y % pr % 10009 := Int.emod_nonneg _ (by decide)
      have v1 : y % pr % 10009 < 10009 := Int.emod_lt_of_pos _ (by decide)
      refine ⟨.int (y % pr), rfl, .int (y % pr), rfl, y % pr, 10009, rfl, rfl, (show (0 : Int) < 10009 by decide), .ref p, rfl, p, _, 2, .int (c + 1), rfl, rfl, hM, atI_nat (j := 2) rfl, 89, c + 1, rfl, rfl, .inl ⟨by decide, by decide⟩,
        _, _, rfl, rfl, y % pr, _, rfl, rfl, .inl ⟨by omega, by omega⟩, _, 2305843009213693907, rfl, rfl, (show (0 : Int) < 2305843009213693907 by decide), _, 89, rfl, rfl, ⟨by decide, by decide⟩, .int z, rfl, _, z, rfl, rfl, z0, ?_⟩
      exact q _ _ kp ⟨g, m, c + 1, h3, g0, g1, m0, m1, by omega, by omega⟩ (Int.emod_nonneg _ (by omega)) (Int.emod_lt_of_pos _ z0)
/-! ### pot -/
def spPot (K : PySem.W.Frag) : Sp := fun vs H Q _ => ∃ (a : Addr) (ns : List Int) (k : Nat), vs = [.ref a, .int k] ∧ SqL K H a (ns.map V.int) ∧ k ≤ 3 ∧
  ∀ H' p, Same H H' → H p = none → Pot H' p 1000000 → Q (.ref p) H'
theorem ok_pot {f : Addr} {fd : FuncData} {k : Nat} (F : Fun K "_law_pot" "_law_pot" sPot f fd) (ml : mg "len" = none) (ma : mg "abs" = none) :
    FnOk P w K mg base CX0 (k + 1) f fd ["_law_script", "_law_k"] (spPot K) := by
  refine F.ok scPot (fun vs H Q E h => ?_) (fun cdv A outer s H vs Q E hr h => ?_)
  · obtain ⟨a, ns, k, rfl, _⟩ := h
    rfl
  · obtain ⟨a, ns, k, rfl, hS, k3, q⟩ := h
    refine ⟨_, pss_cons (ps_set (i := 2) scPot.nd rfl (.inl rfl) (pe_ifExp (pt_cmpR op_lt (pv 1) (pe_callB call_len_seq (by rfl) ml PySem.boot_len (pa_cons (pv 0) pa_nil)) (nomark _))
          (pe_ix ix_list (pv 0) (pv 1) (fun _ _ => rfl)) (pe_op op_add (pe_op op_mul pe_int (pv 1)) pe_int)))
      (pss_cons (ps_set (i := 3) scPot.nd rfl (.inl rfl) (pe_ifExp (pt_cmpR op_ge (pe_callB call_abs (by rfl) ma (by decide +kernel) (pa_cons (pv 2) pa_nil)) (pe_op op_pow pe_int pe_int) (nomark _))
          (pe_op op_mod (pe_callB call_abs (by rfl) ma (by decide +kernel) (pa_cons (pv 2) pa_nil)) (pe_op op_powB (pe_op op_pow pe_int pe_int) pe_int)) pe_int))
      (pss_one (ps_ret (pe_lst (pa_cons (pv 3) (pa_cons (pe_op op_mod (pe_op op_add (pe_op op_add (pe_op op_mul (pe_op op_mod (pv 2) pe_int) pe_int)
          (pe_op op_mul (pe_op op_mul pe_int (pv 1)) (pv 1))) pe_int) pe_int) (pa_cons pe_int pa_nil))))))), ?_⟩
    have e60 : (10 : Int) ^ (60 : Int).toNat = 1000000000000000000000000000000000000000000000000000000000000 := by decide +kernel
    have e180 : ((10 : Int) ^ (60 : Int).toNat) ^ (3 : Int).toNat = 10 ^ 180 := by decide +kernel
    refine ⟨.int k, rfl, .ref a, rfl, a, _, rfl, .inl hS, _, _, rfl, rfl, _, rfl, ite2 (fun e => ?_) (fun e => ?_)⟩
    · have lt : k < ns.length := by
        have z := of_decide_eq_true e
        rw [List.length_map] at z
        omega
      refine ⟨.ref a, rfl, .int k, rfl, a, _, k, .int ns[k], rfl, rfl, hS, atI_nat (by rw [List.getElem?_map, List.getElem?_eq_getElem lt]; rfl), ?_⟩
      refine ⟨.int ns[k], rfl, ns[k], rfl, 10, 18, rfl, rfl, ⟨by decide, by decide, by decide⟩, _, _, rfl, rfl, _, rfl, ite2 (fun e => ?_) (fun e => ?_)⟩
      · refine ⟨.int ns[k], rfl, ns[k], rfl, 10, 60, rfl, rfl, ⟨by decide, by decide, by decide⟩, _, 3, rfl, rfl, ⟨by decide, by rw [e60]; decide +kernel⟩, _, _, rfl, rfl, by rw [e180]; exact (by decide +kernel : (0 : Int) < 10 ^ 180), ?_⟩
        rw [e180]
        have gr0 : 0 ≤ (if ns[k] < 0 then -ns[k] else ns[k]) % 10 ^ 180 := Int.emod_nonneg _ (by decide +kernel)
        have gr1 : (if ns[k] < 0 then -ns[k] else ns[k]) % 10 ^ 180 < 10 ^ 180 := Int.emod_lt_of_pos _ (by decide +kernel)
        have g9 : 0 ≤ ns[k] % 2305843009213693951 := Int.emod_nonneg _ (by decide)
        have g8 : ns[k] % 2305843009213693951 < 2305843009213693951 := Int.emod_lt_of_pos _ (by decide)
        refine ⟨_, rfl, .int ns[k], rfl, ns[k], 2305843009213693951, rfl, rfl, (show (0 : Int) < 2305843009213693951 by decide), _, 69621, rfl, rfl, .inl ⟨by omega, by omega⟩, .int k, rfl, 104729, k, rfl, rfl, .inl ⟨by decide, by decide⟩,
          .int k, rfl, _, k, rfl, rfl, .inl ⟨by omega, by omega⟩, _, _, rfl, rfl, _, 71, rfl, rfl, _, 2305843009213693921, rfl, rfl, (show (0 : Int) < 2305843009213693921 by decide), Nat.le_of_lt (small1000 (by show 3 ≤ 1000; decide)), fun p hp => ?_⟩
        exact q _ _ (same_new hp) hp ⟨_, (ns[k] % 2305843009213693951 * 69621 + 104729 * k * k + 71) % 2305843009213693921, 0, upd_same, gr0, gr1, Int.emod_nonneg _ (by decide), Int.lt_trans (Int.emod_lt_of_pos _ (by decide)) (by decide), by decide, by decide⟩
      · have gr0 : (0 : Int) ≤ 0 := by decide
        have gr1 : (0 : Int) < 10 ^ 180 := by decide +kernel
        have g9 : 0 ≤ ns[k] % 2305843009213693951 := Int.emod_nonneg _ (by decide)
        have g8 : ns[k] % 2305843009213693951 < 2305843009213693951 := Int.emod_lt_of_pos _ (by decide)
        refine ⟨_, rfl, .int ns[k], rfl, ns[k], 2305843009213693951, rfl, rfl, (show (0 : Int) < 2305843009213693951 by decide), _, 69621, rfl, rfl, .inl ⟨by omega, by omega⟩, .int k, rfl, 104729, k, rfl, rfl, .inl ⟨by decide, by decide⟩,
          .int k, rfl, _, k, rfl, rfl, .inl ⟨by omega, by omega⟩, _, _, rfl, rfl, _, 71, rfl, rfl, _, 2305843009213693921, rfl, rfl, (show (0 : Int) < 2305843009213693921 by decide), Nat.le_of_lt (small1000 (by show 3 ≤ 1000; decide)), fun p hp => ?_⟩
        exact q _ _ (same_new hp) hp ⟨_, (ns[k] % 2305843009213693951 * 69621 + 104729 * k * k + 71) % 2305843009213693921, 0, upd_same, gr0, gr1, Int.emod_nonneg _ (by decide), Int.lt_trans (Int.emod_lt_of_pos _ (by decide)) (by decide), by decide, by decide⟩
    · refine ⟨.int k, rfl, 17, k, rfl, rfl, .inl ⟨by decide, by decide⟩, _, 3, rfl, rfl, ?_⟩
      refine ⟨.int (17 * (k : Int) + 3), rfl, (17 * (k : Int) + 3), rfl, 10, 18, rfl, rfl, ⟨by decide, by decide, by decide⟩, _, _, rfl, rfl, _, rfl, ite2 (fun e => ?_) (fun e => ?_)⟩
      · refine ⟨.int (17 * (k : Int) + 3), rfl, (17 * (k : Int) + 3), rfl, 10, 60, rfl, rfl, ⟨by decide, by decide, by decide⟩, _, 3, rfl, rfl, ⟨by decide, by rw [e60]; decide +kernel⟩, _, _, rfl, rfl, by rw [e180]; exact (by decide +kernel : (0 : Int) < 10 ^ 180), ?_⟩
        rw [e180]
        have gr0 : 0 ≤ (if (17 * (k : Int) + 3) < 0 then -(17 * (k : Int) + 3) else (17 * (k : Int) + 3)) % 10 ^ 180 := Int.emod_nonneg _ (by decide +kernel)
        have gr1 : (if (17 * (k : Int) + 3) < 0 then -(17 * (k : Int) + 3) else (17 * (k : Int) + 3)) % 10 ^ 180 < 10 ^ 180 := Int.emod_lt_of_pos _ (by decide +kernel)
        have g9 : 0 ≤ (17 * (k : Int) + 3) % 2305843009213693951 := Int.emod_nonneg _ (by decide)
        have g8 : (17 * (k : Int) + 3) % 2305843009213693951 < 2305843009213693951 := Int.emod_lt_of_pos _ (by decide)
        refine ⟨_, rfl, .int (17 * (k : Int) + 3), rfl, (17 * (k : Int) + 3), 2305843009213693951, rfl, rfl, (show (0 : Int) < 2305843009213693951 by decide), _, 69621, rfl, rfl, .inl ⟨by omega, by omega⟩, .int k, rfl, 104729, k, rfl, rfl, .inl ⟨by decide, by decide⟩,
          .int k, rfl, _, k, rfl, rfl, .inl ⟨by omega, by omega⟩, _, _, rfl, rfl, _, 71, rfl, rfl, _, 2305843009213693921, rfl, rfl, (show (0 : Int) < 2305843009213693921 by decide), Nat.le_of_lt (small1000 (by show 3 ≤ 1000; decide)), fun p hp => ?_⟩
        exact q _ _ (same_new hp) hp ⟨_, ((17 * (k : Int) + 3) % 2305843009213693951 * 69621 + 104729 * k * k + 71) % 2305843009213693921, 0, upd_same, gr0, gr1, Int.emod_nonneg _ (by decide), Int.lt_trans (Int.emod_lt_of_pos _ (by decide)) (by decide), by decide, by decide⟩
      · have gr0 : (0 : Int) ≤ 0 := by decide
        have gr1 : (0 : Int) < 10 ^ 180 := by decide +kernel
        have g9 : 0 ≤ (17 * (k : Int) + 3) % 2305843009213693951 := Int.emod_nonneg _ (by decide)
        have g8 : (17 * (k : Int) + 3) % 2305843009213693951 < 2305843009213693951 := Int.emod_lt_of_pos _ (by decide)
        refine ⟨_, rfl, .int (17 * (k : Int) + 3), rfl, (17 * (k : Int) + 3), 2305843009213693951, rfl, rfl, (show (0 : Int) < 2305843009213693951 by decide), _, 69621, rfl, rfl, .inl ⟨by omega, by omega⟩, .int k, rfl, 104729, k, rfl, rfl, .inl ⟨by decide, by decide⟩,
          .int k, rfl, _, k, rfl, rfl, .inl ⟨by omega, by omega⟩, _, _, rfl, rfl, _, 71, rfl, rfl, _, 2305843009213693921, rfl, rfl, (show (0 : Int) < 2305843009213693921 by decide), Nat.le_of_lt (small1000 (by show 3 ≤ 1000; decide)), fun p hp => ?_⟩
        exact q _ _ (same_new hp) hp ⟨_, ((17 * (k : Int) + 3) % 2305843009213693951 * 69621 + 104729 * k * k + 71) % 2305843009213693921, 0, upd_same, gr0, gr1, Int.emod_nonneg _ (by decide), Int.lt_trans (Int.emod_lt_of_pos _ (by decide)) (by decide), by decide, by decide⟩
end
end SL

namespace SL
open PySem
/-! ### lists -/
theorem perm_of_sub {α : Type} [DecidableEq α] : ∀ (l r : List α), l.Nodup → (∀ x ∈ l, x ∈ r) → r.length ≤ l.length → l.Perm r
  | [], r, _, _, h => by
    have e : r = [] := List.eq_nil_of_length_eq_zero (Nat.le_zero.mp h)
    rw [e]
  | a :: l, r, nd, sub, h => by
    have ha : a ∈ r := sub a List.mem_cons_self
    have p := List.perm_cons_erase ha
    have len : (r.erase a).length = r.length - 1 := List.length_erase_of_mem ha
    rw [List.nodup_cons] at nd
    have ih := perm_of_sub l (r.erase a) nd.2 (fun x hx => (List.mem_erase_of_ne (fun (e : x = a) => nd.1 (by rw [← e]; exact hx))).mpr (sub x (List.mem_cons_of_mem _ hx))) (by
      rw [len]
      rw [List.length_cons] at h
      omega)
    exact (ih.cons a).trans p.symm
theorem len_of_sub {α : Type} [DecidableEq α] : ∀ (l r : List α), l.Nodup → (∀ x ∈ l, x ∈ r) → l.length ≤ r.length
  | [], r, _, _ => Nat.zero_le _
  | a :: l, r, nd, sub => by
    have ha : a ∈ r := sub a List.mem_cons_self
    have len : (r.erase a).length = r.length - 1 := List.length_erase_of_mem ha
    rw [List.nodup_cons] at nd
    have ih := len_of_sub l (r.erase a) nd.2 (fun x hx => (List.mem_erase_of_ne (fun (e : x = a) => nd.1 (by rw [← e]; exact hx))).mpr (sub x (List.mem_cons_of_mem _ hx)))
    have pos : 0 < r.length := List.length_pos_of_mem ha
    rw [List.length_cons]
    omega
/-- the slots -/
def R (n : Nat) : List Int := (List.range n).map fun (i : Nat) => (i : Int)
theorem R_len (n : Nat) : (R n).length = n := by simp [R]
theorem R_mem {n : Nat} {x : Int} : x ∈ R n ↔ 0 ≤ x ∧ x < n := by
  unfold R
  rw [List.mem_map]
  constructor
  · rintro ⟨i, hi, rfl⟩
    have := List.mem_range.mp hi
    omega
  · rintro ⟨h0, h1⟩
    exact ⟨x.toNat, List.mem_range.mpr (by omega), by omega⟩
theorem R_nodup (n : Nat) : (R n).Nodup := by
  unfold R
  rw [List.nodup_iff_pairwise_ne, List.pairwise_map]
  exact (List.nodup_range (n := n)).imp (fun h e => h (by omega))
theorem R_rising (n : Nat) : (R n).Pairwise (· ≤ ·) := by
  unfold R
  rw [List.pairwise_map]
  exact (List.pairwise_lt_range (n := n)).imp (fun h => by omega)
/-- by the set: as many as there are, and no more of them -/
theorem probe_by_set {n : Nat} {ns ks : List Int} (nd : ks.Nodup) (mem : ∀ k, k ∈ ks ↔ k ∈ ns) (inR : ∀ x ∈ ns, x ∈ R n) : (ns.length = n ∧ ks.length = n) ↔ ns.Perm (R n) := by
  constructor
  · rintro ⟨h1, h2⟩
    have p : ks.Perm (R n) := perm_of_sub ks (R n) nd (fun x hx => inR x ((mem x).mp hx)) (by rw [R_len]; omega)
    refine (perm_of_sub (R n) ns (R_nodup n) (fun x hx => (mem x).mp (p.mem_iff.mpr hx)) (by rw [R_len]; omega)).symm
  · intro p
    have h1 : ns.length = n := by rw [p.length_eq, R_len]
    refine ⟨h1, ?_⟩
    have a := len_of_sub ks (R n) nd fun x hx => inR x ((mem x).mp hx)
    have b := len_of_sub (R n) ks (R_nodup n) fun x hx => (mem x).mpr (p.mem_iff.mpr hx)
    rw [R_len] at a b
    omega
/-- by sorting -/
theorem sorted_one {a b : List Int} (p : a.Perm b) (ha : a.Pairwise (· ≤ ·)) (hb : b.Pairwise (· ≤ ·)) : a = b :=
  p.eq_of_pairwise (fun x y _ _ h1 h2 => Int.le_antisymm h1 h2) ha hb
theorem probe_by_sort {n : Nat} {ns out : List Int} (p : out.Perm ns) (r : out.Pairwise (· ≤ ·)) : out = R n ↔ ns.Perm (R n) := by
  constructor
  · intro e
    rw [← e]
    exact p.symm
  · intro q
    exact sorted_one (p.trans q) r (R_rising n)
/-- in a row, round -/
def lineL (n : Nat) (b : Int) : List Int := (List.range n).map fun (i : Nat) => (b + i) % n
theorem line_perm {n : Nat} {b : Int} (hn : 0 < n) : (lineL n b).Perm (R n) := by
  refine perm_of_sub _ _ ?_ (fun x hx => ?_) (by rw [R_len]; simp [lineL])
  · unfold lineL
    rw [List.nodup_iff_pairwise_ne, List.pairwise_map]
    refine (List.pairwise_lt_range (n := n)).imp_of_mem (fun {i j} hi hj h e => ?_)
    have hi := List.mem_range.mp hi
    have hj := List.mem_range.mp hj
    have z : ((b + j) - (b + i)) % (n : Int) = 0 := by rw [Int.sub_emod, ← e, Int.sub_self, Int.zero_emod]
    have d := Int.emod_emod_of_dvd
    have dv : (n : Int) ∣ ((b + j) - (b + i)) := Int.dvd_of_emod_eq_zero z
    have l := Int.le_of_dvd (by omega) dv
    omega
  · unfold lineL at hx
    rw [List.mem_map] at hx
    obtain ⟨i, _, rfl⟩ := hx
    exact R_mem.mpr ⟨Int.emod_nonneg _ (by omega), Int.emod_lt_of_pos _ (by omega)⟩
end SL

namespace SL
open PySem PySem.Spec PyProof.Rows L2
theorem scMixed : FnScope ["_law_pot_here", "_law_some", "_law_left", "_law_found"] ["_law_pot_here", "_law_some"] (defScope sMixed) := ⟨rfl, rfl, rfl, by decide +kernel, rfl, by decide +kernel, by decide +kernel⟩
section
variable {P : Program} {w : World} {K : PySem.W.Frag} {mg : Str → Option Value} {base : Heap}
/-! ### mixed -/
def spMixed : Sp := fun vs H Q _ => ∃ (p l : Addr) (ns : List Int) (n : Nat), vs = [.ref p, .ref l] ∧ Pot H p (n + ns.length) ∧ H l = some (.lst (ns.map V.int)) ∧ ns.length ≤ 100 ∧
  ∀ (H' : Hp) (t : Addr) (out : List Int), Kp p H H' → Pot H' p n → H t = none → H' t = some (.lst (out.map V.int)) → out.Perm ns → Q (.ref t) H'
def lenAt (H : Hp) : Option (Option V) → Nat
  | some (some (.ref a)) => match H a with
    | some (.lst xs) => xs.length
    | _ => 0
  | _ => 0
theorem lenAt_of {H : Hp} {a : Addr} {xs : List V} (h : H a = some (.lst xs)) : lenAt H (some (some (.ref a))) = xs.length := by
  show (match H a with
    | some (.lst xs) => xs.length
    | _ => 0) = xs.length
  rw [h]
theorem take_out : ∀ (l : List Int) (i : Nat) (h : i < l.length), (l[i] :: l.eraseIdx i).Perm l
  | [], i, h => by simp at h
  | a :: l, 0, h => List.Perm.refl _
  | a :: l, i + 1, h => by
    have h' : i < l.length := by simpa using h
    have ih := take_out l i h'
    show (l[i] :: a :: l.eraseIdx i).Perm (a :: l)
    exact (List.Perm.swap a _ _).trans (ih.cons a)
theorem shaped_ints (ns : List Int) : SeqAt.shaped (.list (ns.map PyData.int)) = true := by
  have lay : PyData.canLayAll0 (ns.map PyData.int) = true := by
    induction ns with
    | nil => simp [PyData.canLayAll0]
    | cons a r ih => simp [PyData.canLayAll0, PyData.canLay0, ih]
  have dep : PyData.depthAll (ns.map PyData.int) ≤ 1 := by
    induction ns with
    | nil => simp [PyData.depthAll]
    | cons a r ih =>
      have ih' := ih (by
        simp only [List.map_cons, PyData.canLayAll0, Bool.and_eq_true] at lay
        exact lay.2)
      simp only [List.map_cons, PyData.depthAll, PyData.depth]
      omega
  show ((PyData.list (ns.map PyData.int)).canLay0 && decide ((PyData.list (ns.map PyData.int)).depth ≤ 64)) = true
  rw [Bool.and_eq_true]
  refine ⟨by simp only [PyData.canLay0]; exact lay, decide_eq_true ?_⟩
  simp only [PyData.depth]
  omega
theorem dp_ints (K : PySem.W.Frag) (H : Hp) : ∀ ns : List Int, DpAll K H (ns.map V.int) (ns.map PyData.int)
  | [] => .nil
  | n :: ns => .cons (.int n) (dp_ints K H ns)
theorem ok_mixed {f fT : Addr} {fd fdT : FuncData} {k : Nat} (F : Fun K "_law_mixed" "_law_mixed" sMixed f fd) (FT : Fun K "_law_take" "_law_take" sTake fT fdT) (bT : Binds K fdT ["_law_pot_here", "_law_size"] []) (gT : mg "_law_take" = some (.ref fT))
    (ml : mg "len" = none) (mli : mg "list" = none) : FnOk P w K mg base CX0 (k + 2) f fd ["_law_pot_here", "_law_some"] spMixed := by
  have GT : FnOk P w K mg base CX0 (k + 1) fT fdT ["_law_pot_here", "_law_size"] spTake := ok_take FT
  refine F.ok scMixed (fun vs H Q E h => ?_) (fun cdv A outer s H vs Q E hr h => ?_)
  · obtain ⟨p, l, ns, n, rfl, _⟩ := h
    rfl
  · obtain ⟨p, l, ns, n, rfl, hp, hl, few, q⟩ := h
    refine ⟨_, pss_cons (ps_par (i := 2) (j := 3) (by rfl) scMixed.nd rfl rfl (by decide) rfl rfl (pa_cons (pe_callTy call_list_of (by rfl) mli (by decide +kernel) (pa_cons (pv 1) pa_nil)) (pa_cons (pe_lst pa_nil) pa_nil)) (by rfl))
      (pss_cons (ps_while PassesOwn.never (pt_cmpR (op_neD hr.units) (pv 2) (pe_lst pa_nil) (nomark _))
        (pss_one (ps_expr (pe_bm PySem.F.plainAttrs_list PySem.F.slot_list_append PySem.F.type_list_append mt_append (pv 3)
          (pa_cons (pe_bm PySem.F.plainAttrs_list PySem.F.slot_list_pop PySem.F.type_list_pop mt_popAt (pv 2)
            (pa_cons (pe_call GT hr (by rfl) gT FT.kp bT .nil pass0 (pa_cons (pv 0) (pa_cons (pe_callB call_len_seq (by rfl) ml PySem.boot_len (pa_cons (pv 2) pa_nil)) pa_nil))) pa_nil)) pa_nil)))))
      (pss_one (ps_ret (pv 3)))), ?_⟩
    refine ⟨.ref l, rfl, l, _, rfl, .inl (SqL.of hl), fun a na => ?_⟩
    refine ⟨Nat.zero_le _, fun b nb => ?_⟩
    refine ⟨_, _, rfl, ?_⟩
    have nba : a ≠ b := fun e => by
      rw [← e, upd_same] at nb
      cases nb
    have kb : H b = none := (same_new na).free nb
    refine while_by (fun σ G => ∃ left found : List Int, σ = [some (.ref p), some (.ref l), some (.ref a), some (.ref b)] ∧ G a = some (.lst (left.map V.int)) ∧ G b = some (.lst (found.map V.int)) ∧
        (found ++ left).Perm ns ∧ Pot G p (n + left.length) ∧ Kp p H G) (fun σ G => lenAt G σ[2]?) ?_ (fun σ G inv => ?_) (fun σ G Q1 Q2 mono h => ?_)
    · refine ⟨ns, [], rfl, ?_, upd_same, List.Perm.refl _, (hp.same (same_new na)).same (same_new nb), Kp.same ((same_new na).trans (same_new nb))⟩
      rw [upd_ne nba, upd_same]
    · obtain ⟨left, found, rfl, ha, hb, perm, pot, kp⟩ := inv
      have apa : a ≠ p := fun e => by
        obtain ⟨g, m, c, hpp, _⟩ := hp
        rw [e, hpp] at na
        cases na
      have bpb : b ≠ p := fun e => by
        obtain ⟨g, m, c, hpp, _⟩ := hp
        rw [e, hpp] at kb
        cases kb
      refine ⟨.ref a, rfl, Nat.zero_le _, fun t nt => ?_⟩
      have st : Same G (upd G t (.lst [])) := same_new nt
      refine ⟨_, _, .lst (SqL.of (st _ _ ha)) (dp_ints K _ left), .lst (SqL.of upd_same) .nil, shaped_ints left, shaped_ints [], _, rfl, ?_⟩
      cases left with
      | nil =>
        show if (!PyData.eqv (.list []) (.list [])) = true then _ else _
        rw [show PyData.eqv (.list []) (.list []) = true by simp [PyData.eqv, PyData.eqvAll]]
        refine iteF ?_
        refine ⟨.ref b, rfl, ?_⟩
        refine q _ b found (kp.trans (Kp.same st)) ((pot.same st).less (by simp)) kb (st _ _ hb) ?_
        rw [List.append_nil] at perm
        exact perm
      | cons z rest =>
        show if (!PyData.eqv (.list (.int z :: rest.map PyData.int)) (.list [])) = true then _ else _
        rw [show PyData.eqv (.list (.int z :: rest.map PyData.int)) (.list []) = false by simp [PyData.eqv, PyData.eqvAll]]
        refine iteT ?_
        have len : (found ++ z :: rest).length = ns.length := perm.length_eq
        rw [List.length_append, List.length_cons] at len
        refine ⟨.ref b, rfl, .inl ⟨rfl, _, SqL.of (st _ _ hb)⟩, .ref a, rfl, .inl ⟨rfl, _, SqL.of (st _ _ ha)⟩, .ref p, rfl, .ref a, rfl, a, _, rfl, .inl (SqL.of (st _ _ ha)), p, _, n + rest.length, rfl, (pot.same st).less (by simp; omega), ?_, ?_, fun G2 r kp2 pot2 r0 r1 => ?_⟩
        · rw [List.length_map, List.length_cons]; omega
        · rw [List.length_map, List.length_cons]; omega
        have ha2 := kp2 _ _ apa (st _ _ ha)
        have hb2 := kp2 _ _ bpb (st _ _ hb)
        rw [List.length_map] at r1
        have hi : r.toNat < (z :: rest).length := by omega
        have gi : ((z :: rest).map V.int)[r.toNat]? = some (.int (z :: rest)[r.toNat]) := by
          rw [List.getElem?_map, List.getElem?_eq_getElem hi]
          rfl
        refine ⟨a, _, r, r.toNat, _, rfl, rfl, ha2, by omega, by simp only [List.length_cons] at r1; omega, ?_, gi, ?_⟩
        · rw [List.length_map]
          exact seqIndex_of r0 r1
        · have ha3 : upd G2 a (.lst (((z :: rest).map V.int).eraseIdx r.toNat)) a = some (.lst (((z :: rest).eraseIdx r.toNat).map V.int)) := by
            rw [upd_same, erase_mapI]
          have hb3 : upd G2 a (.lst (((z :: rest).map V.int).eraseIdx r.toNat)) b = some (.lst (found.map V.int)) := by
            rw [upd_ne nba.symm]
            exact hb2
          refine ⟨b, _, _, rfl, rfl, hb3, ?_, ?_⟩
          · rw [List.length_map]
            exact small1000 (by omega)
          have lenE : ((z :: rest).eraseIdx r.toNat).length = rest.length := by
            rw [List.length_eraseIdx_of_lt hi, List.length_cons]
            omega
          refine ⟨⟨(z :: rest).eraseIdx r.toNat, found ++ [(z :: rest)[r.toNat]], rfl, ?_, ?_, ?_, ?_, ?_⟩, ?_⟩
          · rw [upd_ne nba]
            exact ha3
          · rw [upd_same, List.map_append]
            rfl
          · refine List.Perm.trans ?_ perm
            rw [List.append_assoc]
            refine List.Perm.append_left found ?_
            exact take_out _ _ hi
          · obtain ⟨g, m, c, z1, z2⟩ := pot2
            rw [lenE]
            refine ⟨g, m, c, ?_, z2⟩
            rw [upd_ne bpb.symm, upd_ne apa.symm]
            exact z1
          · intro d o nd hd
            have da : d ≠ a := ne_of_none hd na
            have db : d ≠ b := ne_of_none hd kb
            rw [upd_ne db, upd_ne da]
            exact kp2 _ _ nd (st _ _ (kp _ _ nd hd))
          · show lenAt _ (some (some (.ref a))) < lenAt _ (some (some (.ref a)))
            rw [lenAt_of ((upd_ne nba).trans ha3), lenAt_of ha]
            rw [List.length_map, List.length_map, lenE, List.length_cons]
            omega
    · obtain ⟨v, e, z0, f⟩ := h
      refine ⟨v, e, z0, fun t nt => ?_⟩
      obtain ⟨d1, d2, a1, a2, a3, a4, kk, ek, qq⟩ := f t nt
      exact ⟨d1, d2, a1, a2, a3, a4, kk, ek, mono _ _ qq⟩
end
end SL

namespace SL
open PySem PySem.Spec PyProof.Rows L2
theorem rgV_R (n : Nat) : rgV 0 n = (R n).map V.int := by
  unfold rgV R
  rw [List.map_map]
  have e : ((n : Int) - 0).toNat = n := by omega
  rw [e]
  refine List.map_congr_left fun i _ => ?_
  show V.int (0 + (i : Int)) = V.int i
  rw [Int.zero_add]
/-! ### data: tuples and lists (none of them the pot) of None, bools, ints, texts -/
mutual
inductive Dt (p : Addr) (H : Hp) : V → PyData → Prop
  | non : Dt p H .non .none
  | bl (b : Bool) : Dt p H (.bl b) (.bool b)
  | int (i : Int) : Dt p H (.int i) (.int i)
  | str (x : Str) : Dt p H (.str x) (.str x)
  | tup {a : Addr} {xs : List V} {ds : List PyData} : H a = some (.tup xs) → DtAll p H xs ds → Dt p H (.ref a) (.tuple ds)
  | lst {a : Addr} {xs : List V} {ds : List PyData} : H a = some (.lst xs) → a ≠ p → DtAll p H xs ds → Dt p H (.ref a) (.list ds)
inductive DtAll (p : Addr) (H : Hp) : List V → List PyData → Prop
  | nil : DtAll p H [] []
  | cons {v : V} {vs : List V} {d : PyData} {ds : List PyData} : Dt p H v d → DtAll p H vs ds → DtAll p H (v :: vs) (d :: ds)
end
mutual
theorem Dt.dp {K : PySem.W.Frag} {p : Addr} {H : Hp} : ∀ {v : V} {d : PyData}, Dt p H v d → Dp K H v d
  | _, _, .non => .non
  | _, _, .bl b => .bl b
  | _, _, .int i => .int i
  | _, _, .str x => .str x
  | _, _, .tup h a => .tup (SqT.of h) a.dp
  | _, _, .lst h _ a => .lst (SqL.of h) a.dp
theorem DtAll.dp {K : PySem.W.Frag} {p : Addr} {H : Hp} : ∀ {v : List V} {d : List PyData}, DtAll p H v d → DpAll K H v d
  | _, _, .nil => .nil
  | _, _, .cons h t => .cons h.dp t.dp
end
mutual
theorem Dt.plain {p : Addr} {H : Hp} : ∀ {v : V} {d : PyData}, Dt p H v d → d.hasDict = false
  | _, _, .non => by simp [PyData.hasDict]
  | _, _, .bl b => by simp [PyData.hasDict]
  | _, _, .int i => by simp [PyData.hasDict]
  | _, _, .str x => by simp [PyData.hasDict]
  | _, _, .tup h a => by
    have := a.plain
    simpa [PyData.hasDict] using this
  | _, _, .lst h _ a => by
    have := a.plain
    simpa [PyData.hasDict] using this
theorem DtAll.plain {p : Addr} {H : Hp} : ∀ {v : List V} {d : List PyData}, DtAll p H v d → PyData.hasDictAll d = false
  | _, _, .nil => by simp [PyData.hasDictAll]
  | _, _, .cons h t => by
    have h1 := h.plain
    have h2 := t.plain
    simp [PyData.hasDictAll, h1, h2]
end
/-- the tuples stand as they were -/
def Tk (H H' : Hp) : Prop := ∀ b xs, H b = some (.tup xs) → H' b = some (.tup xs)
/-- the tuples, and the lists but the pot -/
def Dk (p : Addr) (H H' : Hp) : Prop := Tk H H' ∧ ∀ b xs, b ≠ p → H b = some (.lst xs) → H' b = some (.lst xs)
theorem Same.tk {H H' : Hp} (s : Same H H') : Tk H H' := fun b xs h => s _ _ h
theorem Same.dk {p : Addr} {H H' : Hp} (s : Same H H') : Dk p H H' := ⟨fun b xs h => s _ _ h, fun b xs _ h => s _ _ h⟩
theorem Kp.tk {p : Addr} {H H' : Hp} {xs : List V} (k : Kp p H H') (h : H p = some (.lst xs)) : Tk H H' := fun b ys e => by
  refine k _ _ (fun z => ?_) e
  rw [z, h] at e
  cases e
theorem Kp.dk {p : Addr} {H H' : Hp} {xs : List V} (k : Kp p H H') (h : H p = some (.lst xs)) : Dk p H H' := ⟨k.tk h, fun b ys n e => k _ _ n e⟩
theorem Dk.trans {p : Addr} {H H1 H2 : Hp} (a : Dk p H H1) (b : Dk p H1 H2) : Dk p H H2 := ⟨fun c xs h => b.1 _ _ (a.1 _ _ h), fun c xs n h => b.2 _ _ n (a.2 _ _ n h)⟩
mutual
theorem Dt.keep {p : Addr} {H H' : Hp} (k : Dk p H H') : ∀ {v : V} {d : PyData}, Dt p H v d → Dt p H' v d
  | _, _, .non => .non
  | _, _, .bl b => .bl b
  | _, _, .int i => .int i
  | _, _, .str x => .str x
  | _, _, .tup h a => .tup (k.1 _ _ h) (a.keep k)
  | _, _, .lst h n a => .lst (k.2 _ _ n h) n (a.keep k)
theorem DtAll.keep {p : Addr} {H H' : Hp} (k : Dk p H H') : ∀ {v : List V} {d : List PyData}, DtAll p H v d → DtAll p H' v d
  | _, _, .nil => .nil
  | _, _, .cons h t => .cons (h.keep k) (t.keep k)
end
theorem DtAll.len {p : Addr} {H : Hp} : ∀ {v : List V} {d : List PyData}, DtAll p H v d → v.length = d.length
  | _, _, .nil => rfl
  | _, _, .cons h t => by rw [List.length_cons, List.length_cons, t.len]
theorem DtAll.get {p : Addr} {H : Hp} : ∀ {v : List V} {d : List PyData}, DtAll p H v d → ∀ (i : Nat) (x : V), v[i]? = some x → ∃ y, d[i]? = some y ∧ Dt p H x y
  | _, _, .nil, i, x, e => by simp at e
  | _, _, .cons h t, 0, x, e => by
    have e' := Option.some.inj e
    subst e'
    exact ⟨_, rfl, h⟩
  | _, _, .cons h t, i + 1, x, e => t.get i x e
theorem DtAll.ints {p : Addr} {H : Hp} : ∀ {ns : List Int} {v : List V}, DtAll p H v (ns.map PyData.int) → v = ns.map V.int
  | [], _, .nil => rfl
  | n :: ns, _, .cons (.int _) t => by
    rw [DtAll.ints t]
    rfl
theorem dt_ints {p : Addr} {H : Hp} : ∀ ns : List Int, DtAll p H (ns.map V.int) (ns.map PyData.int)
  | [] => .nil
  | n :: ns => .cons (.int n) (dt_ints ns)
/-- what is asked about: such data, or an empty dict; none is the pot -/
inductive Th (p : Addr) (H : Hp) : V → PyData → Prop
  | dat {v : V} {d : PyData} : Dt p H v d → Th p H v d
  | dct {a : Addr} : H a = some (.dK []) → a ≠ p → Th p H (.ref a) (.dict [])
theorem Th.da {p : Addr} {K : PySem.W.Frag} {H : Hp} {v : V} {d : PyData} (h : Th p H v d) : Da K H v d := by
  cases h with
  | dat h => exact .inl ⟨h.dp, h.plain⟩
  | dct h _ => exact .inr ⟨_, rfl, h, rfl⟩
theorem Th.same {p : Addr} {H H' : Hp} {v : V} {d : PyData} (h : Th p H v d) (s : Same H H') : Th p H' v d := by
  cases h with
  | dat h => exact .dat (h.keep (Same.dk s))
  | dct h n => exact .dct (s _ _ h) n
theorem Th.kp {p : Addr} {H H' : Hp} {v : V} {d : PyData} {xs : List V} (h : Th p H v d) (k : Kp p H H') (hp : H p = some (.lst xs)) : Th p H' v d := by
  cases h with
  | dat h => exact .dat (h.keep (k.dk hp))
  | dct h n => exact .dct (k _ _ n h) n
def tyN : PyData → String
  | .none => "NoneType" | .bool _ => "bool" | .int _ => "int" | .str _ => "str" | .list _ => "list" | .tuple _ => "tuple" | .dict _ => "dict"
theorem Dt.ty {p : Addr} {K : PySem.W.Frag} {H : Hp} {v : V} {d : PyData} (h : Dt p H v d) : TyX K H v (.type (tyN d)) := by
  cases h with
  | non => exact .base .non
  | bl b => exact .base (.bl b)
  | int i => exact .base (.int i)
  | str x => exact .base (.str x)
  | tup h a => exact .base (.tup h)
  | lst h _ a => exact .base (.lst h)
theorem Th.ty {p : Addr} {K : PySem.W.Frag} {H : Hp} {v : V} {d : PyData} (h : Th p H v d) : TyX K H v (.type (tyN d)) := by
  cases h with
  | dat h => exact h.ty
  | dct h _ => exact .base (.dK h)
def isI : PyData → Bool
  | .int _ => true
  | .bool _ => true
  | _ => false
def isB : PyData → Bool
  | .bool _ => true
  | _ => false
def isT : PyData → Bool
  | .tuple _ => true
  | _ => false
theorem kit_int (d : PyData) : kitB (tyN d) "int" = some (isI d) := by cases d <;> simp only [tyN, isI] <;> decide +kernel
theorem kit_bool (d : PyData) : kitB (tyN d) "bool" = some (isB d) := by cases d <;> simp only [tyN, isB] <;> decide +kernel
theorem kit_tuple (d : PyData) : kitB (tyN d) "tuple" = some (isT d) := by cases d <;> simp only [tyN, isT] <;> decide +kernel
/-- a number from lo to hi -/
def inR (lo hi : Int) : PyData → Bool
  | .int i => decide (lo ≤ i) && decide (i ≤ hi)
  | _ => false
theorem scWithin : FnScope ["value", "low", "high"] ["value", "low", "high"] (defScope sWithin) := ⟨rfl, rfl, rfl, by decide +kernel, rfl, by decide +kernel, by decide +kernel⟩
section
variable {P : Program} {w : World} {K : PySem.W.Frag} {mg : Str → Option Value} {base : Heap}
def spWithin : Sp := fun vs H Q _ => ∃ (p : Addr) (v : V) (d : PyData) (lo hi : Int), vs = [v, .int lo, .int hi] ∧ Dt p H v d ∧ Q (.bl (inR lo hi d)) H
theorem ok_within {f : Addr} {fd : FuncData} {k : Nat} (F : Fun K "is_integer_within" "is_integer_within" sWithin f fd) (mi : mg "isinstance" = none) (mn : mg "int" = none) (mb : mg "bool" = none) :
    FnOk P w K mg base CX0 (k + 1) f fd ["value", "low", "high"] spWithin := by
  refine F.ok scWithin (fun vs H Q E h => ?_) (fun cdv A outer s H vs Q E hr h => ?_)
  · obtain ⟨p, v, d, lo, hi, rfl, _⟩ := h
    rfl
  · obtain ⟨p, v, d, lo, hi, rfl, hd, q⟩ := h
    refine ⟨_, pss_one (ps_ret (pe_and (pe_callB call_isi (by rfl) mi (by decide +kernel) (pa_cons (pv 0) (pa_cons (pe_bltn (v := .ty "int") (by rfl) mn (by decide +kernel) rfl) pa_nil)))
      (pe_and (pe_not (pe_callB call_isi (by rfl) mi (by decide +kernel) (pa_cons (pv 0) (pa_cons (pe_bltn (v := .ty "bool") (by rfl) mb (by decide +kernel) rfl) pa_nil))))
        (pe_one (pe_chain op_le op_le (pv 1) (pv 0) (pv 2)))))), ?_⟩
    refine ⟨v, rfl, v, .ty "int", _, _, _, rfl, .ty "int", hd.ty, kit_ty (kit_int d), _, rfl, ite2 (fun e => ?_) (fun e => ?_)⟩
    · refine ⟨v, rfl, v, .ty "bool", _, _, _, rfl, .ty "bool", hd.ty, kit_ty (kit_bool d), _, rfl, _, rfl, ite2 (fun e2 => ?_) (fun e2 => ?_)⟩
      · cases hd with
        | int i =>
          refine ⟨.int lo, rfl, .int i, rfl, lo, i, rfl, rfl, _, rfl, ite2 (fun e3 => ?_) (fun e3 => ?_)⟩
          · refine ⟨.int hi, rfl, i, hi, rfl, rfl, ?_⟩
            have z : inR lo hi (.int i) = decide (i ≤ hi) := by
              show (decide (lo ≤ i) && decide (i ≤ hi)) = _
              rw [e3, Bool.true_and]
            rw [z] at q
            exact q
          · have z : inR lo hi (.int i) = false := by
              show (decide (lo ≤ i) && decide (i ≤ hi)) = _
              rw [Bool.not_eq_true] at e3
              rw [e3, Bool.false_and]
            rw [z] at q
            exact q
        | non => cases e
        | bl b => cases e2
        | str x => cases e
        | tup h a => cases e
        | lst h _ a => cases e
      · have z : inR lo hi d = false := by
          cases d <;> first | rfl | exact absurd rfl e2
        rw [z] at q
        exact q
    · have z : inR lo hi d = false := by
        cases d <;> first | rfl | exact absurd rfl e
      rw [z] at q
      exact q
end
end SL

namespace SL
open PySem PySem.Spec PyProof.Rows L2
theorem all_in {n : Nat} : ∀ {ds : List PyData}, (ds.map (inR 0 ((n : Int) - 1))).all id = true → ∃ ns : List Int, ds = ns.map PyData.int ∧ ∀ x ∈ ns, x ∈ R n
  | [], _ => ⟨[], rfl, fun x hx => by cases hx⟩
  | d :: ds, h => by
    rw [List.map_cons, List.all_cons, Bool.and_eq_true] at h
    obtain ⟨ns, e, hn⟩ := all_in (n := n) h.2
    have h1 : inR 0 ((n : Int) - 1) d = true := h.1
    cases d with
    | int i =>
      have h2 : (decide (0 ≤ i) && decide (i ≤ (n : Int) - 1)) = true := h1
      rw [Bool.and_eq_true, decide_eq_true_eq, decide_eq_true_eq] at h2
      refine ⟨i :: ns, by rw [e]; rfl, fun x hx => ?_⟩
      rcases List.mem_cons.mp hx with z | z
      · rw [z]
        exact R_mem.mpr (by omega)
      · exact hn x z
    | none => cases h1
    | bool b => cases h1
    | str x => cases h1
    | list xs => cases h1
    | tuple xs => cases h1
    | dict xs => cases h1
theorem all_of {n : Nat} : ∀ {ns : List Int}, (∀ x ∈ ns, x ∈ R n) → ((ns.map PyData.int).map (inR 0 ((n : Int) - 1))).all id = true
  | [], _ => rfl
  | i :: ns, h => by
    have z := R_mem.mp (h i List.mem_cons_self)
    rw [List.map_cons, List.map_cons, List.all_cons, Bool.and_eq_true]
    refine ⟨?_, all_of fun x hx => h x (List.mem_cons_of_mem _ hx)⟩
    show (decide (0 ≤ i) && decide (i ≤ (n : Int) - 1)) = true
    rw [Bool.and_eq_true, decide_eq_true_eq, decide_eq_true_eq]
    omega
theorem ints_inj : ∀ {a b : List Int}, a.map PyData.int = b.map PyData.int → a = b
  | [], [], _ => rfl
  | [], _ :: _, h => by cases h
  | _ :: _, [], h => by cases h
  | x :: a, y :: b, h => by
    rw [List.map_cons, List.map_cons] at h
    injection h with h1 h2
    injection h1 with h3
    rw [h3, ints_inj h2]
theorem eqv_ints : ∀ (a b : List Int), PyData.eqvAll (a.map PyData.int) (b.map PyData.int) = decide (a = b)
  | [], [] => by simp [PyData.eqvAll]
  | [], _ :: _ => by simp [PyData.eqvAll]
  | _ :: _, [] => by simp [PyData.eqvAll]
  | x :: a, y :: b => by
    rw [List.map_cons, List.map_cons]
    simp only [PyData.eqvAll, PyData.eqv, eqv_ints a b]
    by_cases h : x = y
    · subst h
      by_cases h2 : a = b
      · simp [h2]
      · simp [h2]
    · simp [h]
end SL

namespace SL
open PySem PySem.Spec PyProof.Rows L2
/-! ### how long data and its text are -/
mutual
def fw : PyData → Bool
  | .tuple xs => decide (xs.length ≤ 200) && fwAll xs
  | .list xs => decide (xs.length ≤ 200) && fwAll xs
  | _ => true
def fwAll : List PyData → Bool
  | [] => true
  | x :: xs => fw x && fwAll xs
end
structure El (k c : Nat) (d : PyData) : Prop where
  sh : d.showable = true
  dp : d.depth ≤ k
  ln : d.shown.length ≤ c
  fw : fw d = true
theorem El.mono {k c k' c' : Nat} {d : PyData} (h : El k c d) (hk : k ≤ k') (hc : c ≤ c') : El k' c' d := ⟨h.sh, Nat.le_trans h.dp hk, Nat.le_trans h.ln hc, h.fw⟩
theorem fw_mem : ∀ {ds : List PyData}, fwAll ds = true → ∀ x ∈ ds, fw x = true
  | [], _, x, hx => by cases hx
  | d :: ds, h, x, hx => by
    simp only [fwAll, Bool.and_eq_true] at h
    rcases List.mem_cons.mp hx with z | z
    · rw [z]
      exact h.1
    · exact fw_mem h.2 x z
theorem fw_tuple {ds : List PyData} (h : fw (.tuple ds) = true) : ds.length ≤ 200 ∧ ∀ x ∈ ds, fw x = true := by
  simp only [fw, Bool.and_eq_true, decide_eq_true_eq] at h
  exact ⟨h.1, fw_mem h.2⟩
theorem el_all {k c : Nat} : ∀ {ds : List PyData}, (∀ x ∈ ds, El k c x) → PyData.showableAll ds = true ∧ PyData.depthAll ds ≤ k ∧ ((PyData.shownAll ds).map (·.length)).sum ≤ ds.length * c ∧ (PyData.shownAll ds).length = ds.length ∧ fwAll ds = true
  | [], _ => by simp [PyData.showableAll, PyData.depthAll, PyData.shownAll, fwAll]
  | d :: ds, h => by
    obtain ⟨a, b, e, f, g⟩ := el_all (ds := ds) fun x hx => h x (List.mem_cons_of_mem _ hx)
    have h1 := h d List.mem_cons_self
    refine ⟨?_, ?_, ?_, ?_, ?_⟩
    · simp only [PyData.showableAll, h1.sh, a, Bool.and_self]
    · simp only [PyData.depthAll]
      have := h1.dp
      omega
    · simp only [PyData.shownAll, List.map_cons, List.sum_cons, List.length_cons]
      have := h1.ln
      rw [Nat.succ_mul]
      omega
    · simp only [PyData.shownAll, List.length_cons, f]
    · simp only [fwAll, h1.fw, g, Bool.and_self]
theorem el_tuple {k c m : Nat} {ds : List PyData} (h : ∀ x ∈ ds, El k c x) (l : ds.length ≤ m) (lm : m ≤ 200) : El (k + 1) (m * (c + 2) + 3) (.tuple ds) := by
  obtain ⟨a, b, e, f, g⟩ := el_all h
  have z := tupleText_len_le (PyData.shownAll ds)
  have z1 : ds.length * c ≤ m * c := Nat.mul_le_mul_right c l
  refine ⟨by simp only [PyData.showable]; exact a, by simp only [PyData.depth]; omega, ?_, ?_⟩
  · simp only [PyData.shown]
    rw [f] at z
    rw [Nat.mul_add]
    omega
  · simp only [SL.fw, g, Bool.and_true]
    exact decide_eq_true (by omega)
theorem el_list {k c m : Nat} {ds : List PyData} (h : ∀ x ∈ ds, El k c x) (l : ds.length ≤ m) (lm : m ≤ 200) : El (k + 1) (m * (c + 2) + 3) (.list ds) := by
  obtain ⟨a, b, e, f, g⟩ := el_all h
  have z := listText_len_le (PyData.shownAll ds)
  have z1 : ds.length * c ≤ m * c := Nat.mul_le_mul_right c l
  refine ⟨by simp only [PyData.showable]; exact a, by simp only [PyData.depth]; omega, ?_, ?_⟩
  · simp only [PyData.shown]
    rw [f] at z
    rw [Nat.mul_add]
    omega
  · simp only [SL.fw, g, Bool.and_true]
    exact decide_eq_true (by omega)
theorem el_none : El 0 20 .none := ⟨by simp [PyData.showable], by simp [PyData.depth], by decide +kernel, by simp [SL.fw]⟩
theorem el_bool (b : Bool) : El 0 20 (.bool b) := ⟨by simp [PyData.showable], by simp [PyData.depth], by cases b <;> decide +kernel, by simp [SL.fw]⟩
theorem el_int {i : Int} (h0 : -10 ≤ i) (h1 : i ≤ 200) : El 0 20 (.int i) := by
  refine ⟨?_, by simp [PyData.depth], ?_, by simp [SL.fw]⟩
  · simp only [PyData.showable]
    refine decide_eq_true ?_
    have z : i.natAbs ≤ 200 := by omega
    have y : i.natAbs.log2 ≤ i.natAbs := Nat.log2_le_self _
    omega
  · have all : ((List.range 211).all fun n => decide ((PyData.shown (.int ((n : Int) - 10))).length ≤ 20)) = true := by decide +kernel
    have z := List.all_eq_true.mp all (i + 10).toNat (List.mem_range.mpr (by omega))
    have e : (((i + 10).toNat : Nat) : Int) - 10 = i := by omega
    rw [e] at z
    exact of_decide_eq_true z
theorem el_digits {i : Int} (h0 : 0 ≤ i) (h1 : i ≤ 100) : El 0 20 (.str (toString i)) := by
  refine ⟨by simp [PyData.showable], by simp [PyData.depth], ?_, by simp [SL.fw]⟩
  have all : ((List.range 101).all fun n => decide ((PyData.shown (.str (toString ((n : Int))))).length ≤ 20)) = true := by decide +kernel
  have z := List.all_eq_true.mp all i.toNat (List.mem_range.mpr (by omega))
  have e : ((i.toNat : Nat) : Int) = i := by omega
  rw [e] at z
  exact of_decide_eq_true z
theorem el_text {x : Str} (h : (PyData.shown (.str x)).length ≤ 20) : El 0 20 (.str x) := ⟨by simp [PyData.showable], by simp [PyData.depth], h, by simp [SL.fw]⟩
/-- what repr, and the defs that judge any value, may be asked of -/
def Good (d : PyData) : Prop := El 20 10000000 d
/-- a value that is such data -/
def Nd (p : Addr) (k c : Nat) (H : Hp) (v : V) : Prop := ∃ d, Dt p H v d ∧ El k c d
theorem Nd.keep {p : Addr} {k c : Nat} {H H' : Hp} {v : V} (h : Nd p k c H v) (t : Dk p H H') : Nd p k c H' v := by
  obtain ⟨d, a, b⟩ := h
  exact ⟨d, a.keep t, b⟩
theorem Nd.mono {p : Addr} {k c k' c' : Nat} {H : Hp} {v : V} (h : Nd p k c H v) (hk : k ≤ k') (hc : c ≤ c') : Nd p k' c' H v := by
  obtain ⟨d, a, b⟩ := h
  exact ⟨d, a, b.mono hk hc⟩
/-- each item is such data -/
def Ek (p : Addr) (k c : Nat) (H : Hp) (xs : List V) : Prop := ∀ y ∈ xs, Nd p k c H y
theorem Ek.sub {p : Addr} {k c : Nat} {H : Hp} {xs ys : List V} (h : Ek p k c H xs) (s : ys.Sublist xs) : Ek p k c H ys := fun y hy => h y (s.subset hy)
theorem Ek.keep {p : Addr} {k c : Nat} {H H' : Hp} {xs : List V} (h : Ek p k c H xs) (t : Dk p H H') : Ek p k c H' xs := fun y hy => (h y hy).keep t
theorem Ek.app {p : Addr} {k c : Nat} {H : Hp} {xs ys : List V} (h : Ek p k c H xs) (g : Ek p k c H ys) : Ek p k c H (xs ++ ys) := fun y hy => by
  rcases List.mem_append.mp hy with z | z
  · exact h y z
  · exact g y z
theorem Ek.mono {p : Addr} {k c k' c' : Nat} {H : Hp} {xs : List V} (h : Ek p k c H xs) (hk : k ≤ k') (hc : c ≤ c') : Ek p k' c' H xs := fun y hy => (h y hy).mono hk hc
theorem Ek.one {p : Addr} {k c : Nat} {H : Hp} {v : V} (h : Nd p k c H v) : Ek p k c H [v] := fun y hy => by
  rw [List.mem_singleton.mp hy]
  exact h
theorem Ek.nil {p : Addr} {k c : Nat} {H : Hp} : Ek p k c H [] := fun y hy => by cases hy
theorem Ek.data {p : Addr} {k c : Nat} {H : Hp} : ∀ {xs : List V}, Ek p k c H xs → ∃ ds, DtAll p H xs ds ∧ ∀ d ∈ ds, El k c d
  | [], _ => ⟨[], .nil, fun d hd => by cases hd⟩
  | v :: xs, h => by
    obtain ⟨d, a, b⟩ := h v List.mem_cons_self
    obtain ⟨ds, e, f⟩ := Ek.data (xs := xs) fun y hy => h y (List.mem_cons_of_mem _ hy)
    refine ⟨d :: ds, .cons a e, fun x hx => ?_⟩
    rcases List.mem_cons.mp hx with z | z
    · rw [z]
      exact b
    · exact f x z
theorem Ek.tuple {p : Addr} {k c m : Nat} {H : Hp} {xs : List V} {t : Addr} (h : Ek p k c H xs) (ht : H t = some (.tup xs)) (l : xs.length ≤ m) (lm : m ≤ 200) : Nd p (k + 1) (m * (c + 2) + 3) H (.ref t) := by
  obtain ⟨ds, e, f⟩ := h.data
  exact ⟨.tuple ds, .tup ht e, el_tuple f (by rw [← e.len]; exact l) lm⟩
theorem Ek.list {p : Addr} {k c m : Nat} {H : Hp} {xs : List V} {t : Addr} (h : Ek p k c H xs) (ht : H t = some (.lst xs)) (n : t ≠ p) (l : xs.length ≤ m) (lm : m ≤ 200) : Nd p (k + 1) (m * (c + 2) + 3) H (.ref t) := by
  obtain ⟨ds, e, f⟩ := h.data
  exact ⟨.list ds, .lst ht n e, el_list f (by rw [← e.len]; exact l) lm⟩
theorem nd_int {p : Addr} {H : Hp} {i : Int} (h0 : -10 ≤ i) (h1 : i ≤ 200) : Nd p 0 20 H (.int i) := ⟨.int i, .int i, el_int h0 h1⟩
theorem nd_bool {p : Addr} {H : Hp} (b : Bool) : Nd p 0 20 H (.bl b) := ⟨.bool b, .bl b, el_bool b⟩
theorem nd_none {p : Addr} {H : Hp} : Nd p 0 20 H .non := ⟨.none, .non, el_none⟩
theorem nd_text {p : Addr} {H : Hp} {x : Str} (h : (PyData.shown (.str x)).length ≤ 20) : Nd p 0 20 H (.str x) := ⟨.str x, .str x, el_text h⟩
theorem ek_ints {p : Addr} {H : Hp} {ns : List Int} (h : ∀ x ∈ ns, 0 ≤ x ∧ x ≤ 100) : Ek p 0 20 H (ns.map V.int) := fun y hy => by
  obtain ⟨x, hx, rfl⟩ := List.mem_map.mp hy
  have := h x hx
  exact nd_int (by omega) (by omega)
/-! ### nested tuples of small numbers -/
inductive Nt (H : Hp) : Nat → V → Prop
  | int {n : Nat} {i : Int} : 0 ≤ i → i ≤ 100 → Nt H n (.int i)
  | tup {n : Nat} {t : Addr} {xs : List V} : H t = some (.tup xs) → xs.length ≤ 16 → (∀ x ∈ xs, Nt H n x) → Nt H (n + 1) (.ref t)
theorem Nt.keep {H H' : Hp} (k : Tk H H') {n : Nat} {v : V} (h : Nt H n v) : Nt H' n v := by
  induction h with
  | int a b => exact .int a b
  | tup a b _ ih => exact .tup (k _ _ a) b ih
/-- lengths of their texts; of what is made of them -/
def cb : Nat → Nat
  | 0 => 20
  | n + 1 => 16 * (cb n + 2) + 3
def bb : Nat → Nat
  | 0 => 100
  | n + 1 => 34 * (bb n + 2) + 30
theorem cb_bb : ∀ n, cb n ≤ bb n
  | 0 => by decide
  | n + 1 => by
    have := cb_bb n
    show 16 * (cb n + 2) + 3 ≤ 34 * (bb n + 2) + 30
    omega
theorem cb_20 : ∀ n, 20 ≤ cb n
  | 0 => by decide
  | n + 1 => by
    have := cb_20 n
    show 20 ≤ 16 * (cb n + 2) + 3
    omega
theorem Nt.nd {p : Addr} {H : Hp} {n : Nat} {v : V} (h : Nt H n v) : Nd p n (cb n) H v := by
  induction h with
  | int a b => exact (nd_int (by omega) (by omega)).mono (by omega) (cb_20 _)
  | tup a b _ ih => exact Ek.tuple (m := 16) ih a b (by omega)
/-! ### == of such tuples is known -/
theorem Nt.full {p : Addr} {H : Hp} {n : Nat} {v : V} (h : Nt H n v) : ∃ d, Dt p H v d ∧ d.depth ≤ n ∧ d.canLay0 = true := by
  induction h with
  | int a b => exact ⟨_, .int _, by simp [PyData.depth], by simp [PyData.canLay0]⟩
  | @tup n t xs a b _ ih =>
    have all : ∀ ys : List V, (∀ x ∈ ys, ∃ d, Dt p H x d ∧ d.depth ≤ n ∧ d.canLay0 = true) → ∃ ds, DtAll p H ys ds ∧ PyData.depthAll ds ≤ n ∧ PyData.canLayAll0 ds = true := by
      intro ys
      induction ys with
      | nil => intro _; exact ⟨[], .nil, by simp [PyData.depthAll], by simp [PyData.canLayAll0]⟩
      | cons y ys ih2 =>
        intro hy
        obtain ⟨d, d1, d2, d3⟩ := hy y List.mem_cons_self
        obtain ⟨ds, e1, e2, e3⟩ := ih2 fun x hx => hy x (List.mem_cons_of_mem _ hx)
        refine ⟨d :: ds, .cons d1 e1, by simp only [PyData.depthAll]; omega, by simp [PyData.canLayAll0, d3, e3]⟩
    obtain ⟨ds, e1, e2, e3⟩ := all xs ih
    refine ⟨.tuple ds, .tup a e1, by simp only [PyData.depth]; omega, by simp only [PyData.canLay0]; exact e3⟩
theorem shaped_of {d : PyData} (h : d.canLay0 = true) (l : d.depth ≤ 64) : SeqAt.shaped d = true := by
  show (d.canLay0 && decide (d.depth ≤ 64)) = true
  rw [h, decide_eq_true l]
  rfl
/-! ### slices and sums of tracked tuples -/
theorem cut_sub (xs : List V) (lo hi : Option Int) : (cutV xs lo hi).Sublist xs := (List.take_sublist _ _).trans (List.drop_sublist _ _)
def rSlW : V → Option Int → Option Int → Hp → VK → Prop := fun x lo hi H Q => ∃ a xs, x = .ref a ∧ H a = some (.tup xs) ∧ ∀ (H' : Hp) (t : Addr) (ys : List V), Same H H' → H' t = some (.tup ys) → ys.Sublist xs → ys = cutV xs lo hi ∨ ys = xs → Q (.ref t) H'
theorem sl_tupW {X : Cx} : SlR X rSlW := by
  intro pins s σ H x v vl vu lo hi sl Q I rx hs pl pu h
  obtain ⟨a, xs, rfl, ha, q⟩ := h
  refine sl_tupA pins s σ H _ v vl vu lo hi sl Q I rx hs pl pu ⟨a, xs, rfl, SqT.of ha, fun _ => ?_, fun _ p np => ?_⟩
  · exact q H a xs (Same.refl H) ha (List.Sublist.refl _) (.inr rfl)
  · exact q _ p _ (same_new np) upd_same (cut_sub xs lo hi) (.inl rfl)
def rCatW : R2 := fun x y H Q => ∃ a b xs ys, x = .ref a ∧ y = .ref b ∧ H a = some (.tup xs) ∧ H b = some (.tup ys) ∧ xs.length + ys.length ≤ 1000 ∧ ∀ (H' : Hp) (t : Addr), Same H H' → H' t = some (.tup (xs ++ ys)) → Q (.ref t) H'
theorem op_catW {X : Cx} : OpR X (binaryOp .Add) rCatW := by
  intro pins s σ H x y v u Q I rx ry h
  obtain ⟨a, b, xs, ys, rfl, rfl, ha, hb, l, q⟩ := h
  refine op_catA pins s σ H _ _ v u Q I rx ry ⟨a, b, xs, ys, rfl, rfl, SqT.of ha, SqT.of hb, Nat.le_of_lt (small1000 l), fun e => ?_, fun _ e => ?_, fun _ _ p np => ?_⟩
  · subst e
    exact q H b (Same.refl H) hb
  · subst e
    exact q H a (Same.refl H) (by rw [List.append_nil]; exact ha)
  · exact q _ p (same_new np) upd_same
end SL

namespace SL
open PySem PySem.Spec PyProof.Rows L2
/-! ### tables -/
def tupI (ns : List Int) : PyData := .tuple (ns.map PyData.int)
def Row (n : Nat) (ns : List Int) : Prop := ns.Pairwise (· < ·) ∧ ∀ y ∈ ns, y ∈ R n
def IsAsc (n : Nat) (d : PyData) : Prop := ∃ ns, d = tupI ns ∧ Row n ns
def Dec (nss : List (List Int)) (a b : Nat) : Prop := if a = b then (a : Int) ∉ nss.getD a [] else ((b : Int) ∈ nss.getD a [] ↔ ¬ (a : Int) ∈ nss.getD b [])
instance (nss : List (List Int)) (a b : Nat) : Decidable (Dec nss a b) := by unfold Dec; infer_instance
def Tb (n : Nat) (nss : List (List Int)) : Prop := nss.length = n ∧ (∀ ns ∈ nss, Row n ns) ∧ ∀ a b : Nat, a < n → b ≤ a → Dec nss a b
def IsTb (n : Nat) (d : PyData) : Prop := ∃ nss, d = .tuple (nss.map tupI) ∧ Tb n nss
def IsR (d : PyData) : Prop := ∃ ds es, d = .tuple ds ∧ ds.length ≤ 16 ∧ ds[0]? = some (.tuple es) ∧ 1 ≤ es.length ∧ es.length ≤ 16 ∧ ∀ x ∈ ds, IsTb es.length x
theorem tupI_inj {a b : List Int} (h : tupI a = tupI b) : a = b := by
  injection h with h1
  exact ints_inj h1
theorem tupIs_inj : ∀ {a b : List (List Int)}, a.map tupI = b.map tupI → a = b
  | [], [], _ => rfl
  | [], _ :: _, h => by cases h
  | _ :: _, [], h => by cases h
  | x :: a, y :: b, h => by
    rw [List.map_cons, List.map_cons] at h
    injection h with h1 h2
    rw [tupI_inj h1, tupIs_inj h2]
theorem IsAsc.iff {n : Nat} {ns : List Int} : IsAsc n (tupI ns) ↔ Row n ns := by
  constructor
  · rintro ⟨ms, e, r⟩
    rw [tupI_inj e]
    exact r
  · intro r
    exact ⟨ns, rfl, r⟩
theorem IsTb.iff {n : Nat} {nss : List (List Int)} : IsTb n (.tuple (nss.map tupI)) ↔ Tb n nss := by
  constructor
  · rintro ⟨mss, e, r⟩
    injection e with e1
    rw [tupIs_inj e1]
    exact r
  · intro r
    exact ⟨nss, rfl, r⟩
theorem rows_of {n : Nat} : ∀ {ds : List PyData}, (∀ x ∈ ds, IsAsc n x) → ∃ nss : List (List Int), ds = nss.map tupI ∧ ∀ ns ∈ nss, Row n ns
  | [], _ => ⟨[], rfl, fun ns h => by cases h⟩
  | d :: ds, h => by
    obtain ⟨ns, e, r⟩ := h d List.mem_cons_self
    obtain ⟨nss, e2, r2⟩ := rows_of (ds := ds) fun x hx => h x (List.mem_cons_of_mem _ hx)
    refine ⟨ns :: nss, by rw [e, e2]; rfl, fun ms hm => ?_⟩
    rcases List.mem_cons.mp hm with z | z
    · rw [z]
      exact r
    · exact r2 ms z
/-- one below the next -/
def adj (ns : List Int) : List Bool := (ns.zip (ns.drop 1)).map fun p => decide (p.1 < p.2)
theorem adj_all : ∀ ns : List Int, (adj ns).all id = true ↔ ns.Pairwise (· < ·)
  | [] => by simp [adj]
  | [a] => by simp [adj]
  | a :: b :: r => by
    have ih := adj_all (b :: r)
    have e : adj (a :: b :: r) = decide (a < b) :: adj (b :: r) := rfl
    rw [e, List.all_cons, Bool.and_eq_true, ih]
    show (decide (a < b) = true ∧ _) ↔ _
    rw [decide_eq_true_eq, List.pairwise_cons (a := a)]
    constructor
    · rintro ⟨h1, h2⟩
      refine ⟨fun x hx => ?_, h2⟩
      rcases List.mem_cons.mp hx with z | z
      · rw [z]
        exact h1
      · rw [List.pairwise_cons] at h2
        exact Int.lt_trans h1 (h2.1 x z)
    · rintro ⟨h1, h2⟩
      exact ⟨h1 b List.mem_cons_self, h2⟩
theorem strict_nodup {l : List Int} (h : l.Pairwise (· < ·)) : l.Nodup := by
  rw [List.nodup_iff_pairwise_ne]
  exact h.imp (fun h e => by omega)
theorem strict_one {a b : List Int} (ha : a.Pairwise (· < ·)) (hb : b.Pairwise (· < ·)) (m : ∀ x, x ∈ a ↔ x ∈ b) : a = b := by
  have l1 := len_of_sub a b (strict_nodup ha) fun x hx => (m x).mp hx
  have l2 := len_of_sub b a (strict_nodup hb) fun x hx => (m x).mpr hx
  have p := perm_of_sub a b (strict_nodup ha) (fun x hx => (m x).mp hx) l2
  exact sorted_one p (ha.imp (fun h => by omega)) (hb.imp (fun h => by omega))
/-! ### rows in the heap -/
inductive RowsAt (H : Hp) : List V → List (List Int) → Prop
  | nil : RowsAt H [] []
  | cons {t : Addr} {vs : List V} {ns : List Int} {nss : List (List Int)} : H t = some (.tup (ns.map V.int)) → RowsAt H vs nss → RowsAt H (.ref t :: vs) (ns :: nss)
theorem RowsAt.keep {H H' : Hp} (k : Tk H H') : ∀ {vs : List V} {nss : List (List Int)}, RowsAt H vs nss → RowsAt H' vs nss
  | _, _, .nil => .nil
  | _, _, .cons h r => .cons (k _ _ h) (r.keep k)
theorem RowsAt.len {H : Hp} : ∀ {vs : List V} {nss : List (List Int)}, RowsAt H vs nss → vs.length = nss.length
  | _, _, .nil => rfl
  | _, _, .cons h r => by rw [List.length_cons, List.length_cons, r.len]
theorem RowsAt.get {H : Hp} : ∀ {vs : List V} {nss : List (List Int)}, RowsAt H vs nss → ∀ i : Nat, i < nss.length → ∃ t, vs[i]? = some (.ref t) ∧ H t = some (.tup ((nss.getD i []).map V.int))
  | _, _, .nil, i, h => by simp at h
  | _, _, .cons h r, 0, _ => ⟨_, rfl, h⟩
  | _, _, .cons h r, i + 1, hi => r.get i (by simpa using hi)
theorem rows_dt {p : Addr} {H : Hp} : ∀ {nss : List (List Int)} {vs : List V}, DtAll p H vs (nss.map tupI) → RowsAt H vs nss
  | [], _, .nil => .nil
  | ns :: nss, _, .cons (.tup h a) t => by
    rw [DtAll.ints a] at h
    exact .cons h (rows_dt t)
theorem RowsAt.dt {p : Addr} {H : Hp} : ∀ {vs : List V} {nss : List (List Int)}, RowsAt H vs nss → DtAll p H vs (nss.map tupI)
  | _, _, .nil => .nil
  | _, _, .cons h r => .cons (.tup h (dt_ints _)) r.dt
theorem RowsAt.snoc {H : Hp} {t : Addr} {ns : List Int} (h : H t = some (.tup (ns.map V.int))) : ∀ {vs : List V} {nss : List (List Int)}, RowsAt H vs nss → RowsAt H (vs ++ [.ref t]) (nss ++ [ns])
  | _, _, .nil => .cons h .nil
  | _, _, .cons a r => .cons a (r.snoc h)
theorem in_ints (a : Int) : ∀ ns : List Int, inV (.int a) (ns.map V.int) = decide (a ∈ ns)
  | [] => by simp [inV]
  | n :: ns => by
    have ih := in_ints a ns
    have e : inV (.int a) ((n :: ns).map V.int) = (eqV (.int n) (.int a) || inV (.int a) (ns.map V.int)) := rfl
    rw [e, ih]
    have e2 : eqV (.int n) (.int a) = decide (n = a) := by
      show (n == a) = decide (n = a)
      by_cases h : n = a <;> simp [h]
    rw [e2]
    by_cases h : n = a
    · subst h
      simp
    · have h' : a ≠ n := fun z => h z.symm
      simp [h, h']
theorem flat_ints (ns : List Int) : (ns.map V.int).all flatV = true := by
  rw [List.all_map]
  exact List.all_eq_true.mpr fun _ _ => rfl
/-! ### answers one by one -/
inductive Told (F : PyData → Prop) : List Bool → List PyData → Prop
  | nil : Told F [] []
  | cons {b : Bool} {y : PyData} {bs : List Bool} {ys : List PyData} : (b = true ↔ F y) → Told F bs ys → Told F (b :: bs) (y :: ys)
theorem Told.snoc {F : PyData → Prop} {b : Bool} {y : PyData} (h : b = true ↔ F y) : ∀ {bs : List Bool} {ys : List PyData}, Told F bs ys → Told F (bs ++ [b]) (ys ++ [y])
  | _, _, .nil => .cons h .nil
  | _, _, .cons a r => .cons a (r.snoc h)
theorem Told.all {F : PyData → Prop} : ∀ {bs : List Bool} {ys : List PyData}, Told F bs ys → (bs.all id = true ↔ ∀ y ∈ ys, F y)
  | _, _, .nil => by simp
  | _, _, .cons (b := b) (y := y) a r => by
    rw [List.all_cons, Bool.and_eq_true, r.all, List.forall_mem_cons]
    show (b = true ∧ _) ↔ _
    rw [a]
theorem Told.len {F : PyData → Prop} : ∀ {bs : List Bool} {ys : List PyData}, Told F bs ys → bs.length = ys.length
  | _, _, .nil => rfl
  | _, _, .cons _ r => by rw [List.length_cons, List.length_cons, r.len]
theorem dt_tuple {p : Addr} {H : Hp} {v : V} {d : PyData} (th : Th p H v d) (h : isT d = true) : ∃ (a : Addr) (xs : List V) (ds : List PyData), v = .ref a ∧ d = .tuple ds ∧ H a = some (.tup xs) ∧ DtAll p H xs ds := by
  cases th with
  | dat z =>
    cases z with
    | tup h1 a1 => exact ⟨_, _, _, rfl, rfl, h1, a1⟩
    | non => cases h
    | bl b => cases h
    | int i => cases h
    | str x => cases h
    | lst _ _ _ => cases h
  | dct _ _ => cases h
/-- all([f(.., x) for x in t]): a def that tells F of each item -/
theorem lc_told {K : PySem.W.Frag} {a D : Addr} {xs : List V} {p : Addr} {H : Hp} {ds : List PyData} {F : PyData → Prop} {te : TE} {σ : L2.St} {i0 : Nat} {Qd : Hp → Prop} (ha : H a = some (.tup xs)) (al : DtAll p H xs ds) (few : ds.length ≤ 1000) (nD : H D = none)
    (hw : ∀ x, wipe ((wipe σ [i0]).set i0 (some x)) [i0] = wipe σ [i0])
    (step : ∀ (x : V) (y : PyData) (G : Hp) (Q' : VK), y ∈ ds → Dt p G x y → Same H G → (∀ b G1, Same G G1 → (b = true ↔ F y) → Q' (.bl b) G1) → te ((wipe σ [i0]).set i0 (some x)) G Q')
    (hd : ∀ bs G, Same H G → Told F bs ds → G D = some (.lst (bs.map V.bl)) → Qd G) :
    ∃ W : Nat → Nat → Hp → Prop, (∃ m, W 0 m (upd H D (.lst []))) ∧ ∀ i m H, W i m H →
      ((Itt K a).stop i H ∧ Qd H) ∨ ((Itt K a).go i H ∧ ∃ Nx : Hp → Prop, (∀ H', Nx H' → ∃ m', m' < m ∧ W (i + 1) m' H') ∧ ∀ x H', (Itt K a).yld i H x H' → gName i0 x (wipe σ [i0]) H' fun σ2 H2 => wipe σ2 [i0] = wipe σ [i0] ∧ tYes σ2 H2 fun b H3 =>
        if b = true then te σ2 H3 fun y H4 => ∃ acc, H4 D = some (.lst acc) ∧ acc.length < sizeLine ∧ Nx (upd H4 D (.lst (acc ++ [y]))) else Nx H3) := by
  have lenx := al.len
  refine lc_tup (K := K) (a := a) (xs := xs) (fun i G => Same H G ∧ ∃ bs : List Bool, Told F bs (ds.take i) ∧ G D = some (.lst (bs.map V.bl))) ⟨same_new nD, [], .nil, upd_same⟩ (fun i G _ h => SqT.of (h.1 _ _ ha)) ?_ ?_
  · rintro i x G hx ⟨sm, bs, told, gd⟩
    obtain ⟨y, hy, dy⟩ := al.get i x hx
    have hlt : i < xs.length := (List.getElem?_eq_some_iff.mp hx).1
    have tl := told.len
    rw [List.length_take] at tl
    refine ⟨hw x, ?_⟩
    refine step x y G _ (List.mem_of_getElem? hy) (dy.keep (Same.dk sm)) sm fun b G1 sm1 ib => ?_
    refine ⟨_, sm1 _ _ gd, ?_, fun c o hc => ?_, bs ++ [b], ?_, ?_⟩
    · rw [List.length_map]
      exact small1000 (by omega)
    · rw [upd_ne (ne_of_none hc nD)]
      exact sm1 _ _ (sm _ _ hc)
    · rw [List.take_add_one, hy]
      exact told.snoc ib
    · rw [upd_same, List.map_append]
      rfl
  · rintro G ⟨sm, bs, told, gd⟩
    rw [List.take_of_length_le (by omega)] at told
    exact hd bs G sm told gd
/-- [.. for x, y in zip(t, u)], tuples -/
theorem lc_zipT {K : PySem.W.Frag} {a b D : Addr} {xs ys : List V} {g : TG} {tt : TT} {te : TE} {vs : List Nat} {σ : L2.St} {H1 : Hp} {Qd : Hp → Prop} (Pv : Nat → Hp → Prop) (h0 : Pv 0 (upd H1 D (.lst [])))
    (hl : ∀ i H, Pv i H → SqT K H a xs ∧ SqT K H b ys)
    (hs : ∀ (i : Nat) (x y : V) (T : Addr) (H : Hp), xs[i]? = some x → ys[i]? = some y → Pv i H → H T = none → g (.ref T) (wipe σ vs) (upd H T (.tup [x, y])) fun σ2 H2 => wipe σ2 vs = wipe σ vs ∧ tt σ2 H2 fun b H3 =>
      if b = true then te σ2 H3 fun y H4 => ∃ acc, H4 D = some (.lst acc) ∧ acc.length < sizeLine ∧ Pv (i + 1) (upd H4 D (.lst (acc ++ [y]))) else Pv (i + 1) H3)
    (hd : ∀ H, Pv (min xs.length ys.length) H → Qd H) :
    ∃ W : Nat → Nat → Hp → Prop, (∃ m, W 0 m (upd H1 D (.lst []))) ∧ ∀ i m H, W i m H →
      ((RZ.ItzT K a b).stop i H ∧ Qd H) ∨ ((RZ.ItzT K a b).go i H ∧ ∃ Nx : Hp → Prop, (∀ H', Nx H' → ∃ m', m' < m ∧ W (i + 1) m' H') ∧ ∀ x H', (RZ.ItzT K a b).yld i H x H' → g x (wipe σ vs) H' fun σ2 H2 => wipe σ2 vs = wipe σ vs ∧ tt σ2 H2 fun b H3 =>
        if b = true then te σ2 H3 fun y H4 => ∃ acc, H4 D = some (.lst acc) ∧ acc.length < sizeLine ∧ Nx (upd H4 D (.lst (acc ++ [y]))) else Nx H3) := by
  refine ⟨fun i m H => m = min xs.length ys.length - i ∧ i ≤ min xs.length ys.length ∧ Pv i H, ⟨_, rfl, Nat.zero_le _, h0⟩, ?_⟩
  rintro i m H ⟨rfl, hi, pv⟩
  obtain ⟨q1, q2⟩ := hl i H pv
  by_cases lt : i < min xs.length ys.length
  · have l1 : i < xs.length := by omega
    have l2 : i < ys.length := by omega
    refine Or.inr ⟨⟨xs, ys, _, _, q1, q2, List.getElem?_eq_getElem l1, List.getElem?_eq_getElem l2⟩, Pv (i + 1), fun H' h => ⟨_, by omega, rfl, by omega, h⟩, ?_⟩
    rintro x H' ⟨T, x1, y1, rfl, nT, rfl, f1, f2⟩
    exact hs i x1 y1 T H (f1 xs q1) (f2 ys q2) pv nT
  · have e : i = min xs.length ys.length := by omega
    refine Or.inl ⟨⟨xs, ys, q1, q2, by omega⟩, hd H ?_⟩
    rw [← e]
    exact pv
/-- t[1:] -/
def rSl1 : V → Option Int → Option Int → Hp → VK → Prop := fun x lo hi H Q => lo = some 1 ∧ hi = none ∧ ∃ a xs, x = .ref a ∧ H a = some (.tup xs) ∧ ∀ (H' : Hp) (t : Addr), Same H H' → H' t = some (.tup (xs.drop 1)) → Q (.ref t) H'
theorem cut1 (xs : List V) : cutV xs (some 1) none = xs.drop 1 := by
  unfold cutV
  rw [show HT.sIx xs.length 0 (some 1) = min 1 xs.length from HT.sIx_nat xs.length 0 1, HT.sIx_none]
  cases xs with
  | nil => rfl
  | cons x r =>
    rw [show min 1 (x :: r).length = 1 by rw [List.length_cons]; omega]
    show List.take ((x :: r).length - 1) r = r
    rw [List.length_cons, Nat.add_sub_cancel]
    exact List.take_length
theorem sl_tup1 {X : Cx} : SlR X rSl1 := by
  intro pins s σ H x v vl vu lo hi sl Q I rx hs pl pu h
  obtain ⟨rfl, rfl, a, xs, rfl, ha, q⟩ := h
  refine sl_tupA pins s σ H _ v vl vu _ _ sl Q I rx hs pl pu ⟨a, xs, rfl, SqT.of ha, fun whole => ?_, fun _ p np => ?_⟩
  · have e : xs = [] := by
      have z := whole.1
      rw [show HT.sIx xs.length 0 (some 1) = min 1 xs.length from HT.sIx_nat xs.length 0 1] at z
      cases xs with
      | nil => rfl
      | cons x r =>
        rw [List.length_cons] at z
        omega
    subst e
    exact q H a (Same.refl H) ha
  · rw [cut1]
    exact q _ p (same_new np) upd_same
/-- sorted(set(t)), a tuple of ints of at most 60 kinds -/
def tSortSet (K : PySem.W.Frag) (ta : TE) : TE := fun σ H Q => ta σ H fun x H1 => ∃ (l : Addr) (ns : List Int), x = .ref l ∧ SqT K H1 l (ns.map V.int) ∧ ns.length ≤ 4000 ∧ (∀ y ∈ ns, y ∈ R 60) ∧
  ∀ (ks : List Int) (q : Addr), ks.Pairwise (· < ·) → (∀ k, k ∈ ks ↔ k ∈ ns) → H1 q = none → Q (.ref q) (upd H1 q (.lst (ks.map V.int)))
theorem pe_sortSet {X : Cx} {a : Expr} {ta : TE} {p p2 q pos : Pos} (g1 : Gl X "sorted") (m1 : X.mg "sorted" = none) (g2 : Gl X "set") (m2 : X.mg "set" = none) (ha : PE X a ta)
    (calm : X.calm = true := by rfl) (one : starEach [a] X.env = (false, eval a X.env) :: starEach [] X.env := by rfl) :
    PE X (.Call (.Name "sorted" p) [.Call (.Name "set" p2) [a] [] q] [] pos) (tSortSet X.K ta) := by
  constructor
  intro pins s σ H Q I h
  refine Call_ (ld_blt I g1 m1 (show bootBuiltins "sorted" = some (.builtin "sorted") by decide +kernel) ?_)
  refine callWith_builtin1 (args_cons ?_ rfl) rfl rfl
  refine Call_ (ld_blt I g2 m2 boot_set ?_)
  refine callWith_type1 (args_cons (thn (ha.run pins s σ H _ I h) ?_) one) one rfl
  rintro v s1 ⟨x, H1, I1, r1, l, ns, rfl, seq, few, inR, q1⟩
  refine args_nil ?_
  cases r1
  obtain ⟨its, rv, ht, hz⟩ := I1.tuple seq
  refine call_set_tupI ns (I1.ok.hd calm) ht (by simpa using rv.ints) (by unfold scanBound; omega) fun h' tk c hS hc kept => ?_
  refine args_nil ?_
  have I2 : Inv X pins σ H1 { s1 with heap := h', toks := tk } := I1.kept kept
  have c60 : c ≤ 60 := by
    obtain ⟨o, es, ep, t, ho, ex, dt, _, nd, mem, lt, fits, siz, _⟩ := hS
    have z := len_of_sub (es.toList.map keyOf) (R 60) nd fun k hk => inR k (by have := (mem k).mpr hk; simpa using this)
    rw [R_len, List.length_map, Array.length_toList, siz] at z
    exact z
  refine sorted_set hS (I2.ok.hd calm) (by omega) fun s' u out c2 ks k g o hp hg hi hs hm hl => ?_
  have hlen : (ks.map V.int).length ≤ sizeLine := by rw [List.length_map, hl, sizeLine_eq]; omega
  have hn : H1 u = none := I2.hok.fresh hp
  have J : Inv X pins σ (upd H1 u (.lst (ks.map V.int))) { ({ s1 with heap := h', toks := tk } : Shared) with heap := s'.heap, gens := s'.gens, drawn := s'.drawn, toks := s'.toks } :=
    I2.call (ch := []) (Un.laid k hp hn) (I2.hok.laid k hp ⟨hlen, out.toList, c2, vals_of_ints hi, hg⟩) (by rw [g]; exact I2.bare) (fun _ z => nomatch z)
  have e : s' = { ({ s1 with heap := h', toks := tk } : Shared) with heap := s'.heap, gens := s'.gens, drawn := s'.drawn, toks := s'.toks } := by
    cases s'
    cases s1
    cases o
    rfl
  rw [e]
  exact ⟨.ref u, _, J, rfl, q1 ks u hs (fun k => by rw [hm k]; simp) hn⟩
end SL

namespace SL
open PySem PySem.Spec PyProof.Rows L2
theorem scSized : FnScope ["value"] ["value"] (defScope sSized) := ⟨rfl, rfl, rfl, by decide +kernel, rfl, by decide +kernel, by decide +kernel⟩
abbrev nAsc : List Str := ["keys", "value", "key", "after"]
theorem scAsc : FnScope nAsc ["keys", "value"] (defScope sAscending) := ⟨rfl, rfl, rfl, by decide +kernel, rfl, by decide +kernel, by decide +kernel⟩
theorem scDec : FnScope ["table", "a", "b"] ["table", "a", "b"] (defScope sDecided) := ⟨rfl, rfl, rfl, by decide +kernel, rfl, by decide +kernel, by decide +kernel⟩
abbrev nTab : List Str := ["keys", "value", "beaten", "a", "b"]
theorem scTab : FnScope nTab ["keys", "value"] (defScope sTable) := ⟨rfl, rfl, rfl, by decide +kernel, rfl, by decide +kernel, by decide +kernel⟩
abbrev nRule : List Str := ["value", "keys", "table"]
theorem scRule : FnScope nRule ["value"] (defScope sRule) := ⟨rfl, rfl, rfl, by decide +kernel, rfl, by decide +kernel, by decide +kernel⟩
/-- of 1 to 16 items -/
def sized : PyData → Bool
  | .tuple ds => decide (1 ≤ ds.length) && decide (ds.length ≤ 16)
  | _ => false
section
variable {P : Program} {w : World} {K : PySem.W.Frag} {mg : Str → Option Value} {base : Heap}
/-- all that the text's defs are -/
structure Defs (K : PySem.W.Frag) (mg : Str → Option Value) : Prop where
  within : ∃ f fd, Fun K "is_integer_within" "is_integer_within" sWithin f fd ∧ Binds K fd ["value", "low", "high"] [] ∧ mg "is_integer_within" = some (.ref f)
  rule : ∃ f fd, Fun K "is_rule" "is_rule" sRule f fd ∧ Binds K fd ["value"] [] ∧ mg "is_rule" = some (.ref f)
  sized : ∃ f fd, Fun K "is_sized" "is_sized" sSized f fd ∧ Binds K fd ["value"] [] ∧ mg "is_sized" = some (.ref f)
  table : ∃ f fd, Fun K "is_table" "is_table" sTable f fd ∧ Binds K fd ["keys", "value"] [] ∧ mg "is_table" = some (.ref f)
  ascending : ∃ f fd, Fun K "is_ascending" "is_ascending" sAscending f fd ∧ Binds K fd ["keys", "value"] [] ∧ mg "is_ascending" = some (.ref f)
  decided : ∃ f fd, Fun K "is_decided" "is_decided" sDecided f fd ∧ Binds K fd ["table", "a", "b"] [] ∧ mg "is_decided" = some (.ref f)
  ruleOf : ∃ f fd, Fun K "rule_of_orders" "rule_of_orders" sRuleOf f fd ∧ Binds K fd ["orders"] [] ∧ mg "rule_of_orders" = some (.ref f)
  tableOf : ∃ f fd, Fun K "table_of_order" "table_of_order" sTableOf f fd ∧ Binds K fd ["order"] [] ∧ mg "table_of_order" = some (.ref f)
  orderAt : ∃ f fd, Fun K "order_at" "order_at" sOrderAt f fd ∧ Binds K fd ["rule", "slot"] [] ∧ mg "order_at" = some (.ref f)
  ringAt : ∃ f fd, Fun K "ring_at" "ring_at" sRingAt f fd ∧ Binds K fd ["rule", "slot"] [] ∧ mg "ring_at" = some (.ref f)
  ordered : ∃ f fd, Fun K "is_ordered" "is_ordered" sOrdered f fd ∧ Binds K fd ["rule"] [] ∧ mg "is_ordered" = some (.ref f)
  pot : ∃ f fd, Fun K "_law_pot" "_law_pot" sPot f fd ∧ Binds K fd ["_law_script", "_law_k"] [] ∧ mg "_law_pot" = some (.ref f)
  take : ∃ f fd, Fun K "_law_take" "_law_take" sTake f fd ∧ Binds K fd ["_law_pot_here", "_law_size"] [] ∧ mg "_law_take" = some (.ref f)
  mixed : ∃ f fd, Fun K "_law_mixed" "_law_mixed" sMixed f fd ∧ Binds K fd ["_law_pot_here", "_law_some"] [] ∧ mg "_law_mixed" = some (.ref f)
  ordTable : ∃ f fd, Fun K "_law_ordered_table" "_law_ordered_table" sOrdTable f fd ∧ Binds K fd ["_law_order"] [] ∧ mg "_law_ordered_table" = some (.ref f)
  right : ∃ f fd, Fun K "_law_right" "_law_right" sRight f fd ∧ Binds K fd ["_law_pot_here"] [] ∧ mg "_law_right" = some (.ref f)
  zMost : ∃ t, mg "MOST" = some (.int 16 t)
  zIsinstance : mg "isinstance" = none
  zInt : mg "int" = none
  zBool : mg "bool" = none
  zTuple : mg "tuple" = none
  zLen : mg "len" = none
  zAll : mg "all" = none
  zAny : mg "any" = none
  zAbs : mg "abs" = none
  zList : mg "list" = none
  zRange : mg "range" = none
  zSorted : mg "sorted" = none
  zRepr : mg "repr" = none
  zMax : mg "max" = none
  zMin : mg "min" = none
  zZip : mg "zip" = none
/-! ### is_sized, are_probes, due -/
def spSized : Sp := fun vs H Q _ => ∃ (p : Addr) (v : V) (d : PyData), vs = [v] ∧ Th p H v d ∧ Q (.bl (sized d)) H
theorem ok_sized {f : Addr} {fd : FuncData} {k : Nat} (F : Fun K "is_sized" "is_sized" sSized f fd) (T : Defs K mg) : FnOk P w K mg base CX0 (k + 1) f fd ["value"] spSized := by
  obtain ⟨tM, gM⟩ := T.zMost
  refine F.ok scSized (fun vs H Q E h => ?_) (fun cdv A outer s H vs Q E hr h => ?_)
  · obtain ⟨p, v, d, rfl, _⟩ := h
    rfl
  · obtain ⟨p, v, d, rfl, th, q⟩ := h
    refine ⟨_, pss_one (ps_ret (pe_and (pe_callB call_isi (by rfl) T.zIsinstance (by decide +kernel) (pa_cons (pv 0) (pa_cons (pe_bltn (v := .ty "tuple") (by rfl) T.zTuple (by decide +kernel) rfl) pa_nil)))
      (pe_one (pe_chain op_le op_le pe_int (pe_callB call_len_seq (by rfl) T.zLen PySem.boot_len (pa_cons (pv 0) pa_nil)) (pe_glob (v := .int 16) rfl gM ⟨_, rfl⟩))))), ?_⟩
    refine ⟨v, rfl, v, .ty "tuple", _, _, _, rfl, .ty "tuple", th.ty, kit_ty (kit_tuple d), _, rfl, ?_⟩
    by_cases isTu : isT d = true
    · rw [isTu]
      obtain ⟨a, xs, ds, rfl, rfl, ha, al⟩ := dt_tuple th isTu
      have lenx := al.len
      refine iteT ?_
      refine ⟨.ref a, rfl, a, xs, rfl, .inr (SqT.of ha), 1, _, rfl, rfl, _, rfl, ite2 (fun e => ?_) (fun e => ?_)⟩
      · refine ⟨_, 16, rfl, rfl, ?_⟩
        have z : sized (.tuple ds) = decide ((xs.length : Int) ≤ 16) := by
          show (decide (1 ≤ ds.length) && decide (ds.length ≤ 16)) = _
          have e' := of_decide_eq_true e
          rw [decide_eq_true (show 1 ≤ ds.length by omega), Bool.true_and]
          exact decide_eq_decide.mpr (by omega)
        rw [z] at q
        exact q
      · have z : sized (.tuple ds) = false := by
          show (decide (1 ≤ ds.length) && decide (ds.length ≤ 16)) = _
          have e' : ¬ (1 ≤ ds.length) := fun w => e (decide_eq_true (by omega))
          rw [decide_eq_false e', Bool.false_and]
        rw [z] at q
        exact q
    · rw [Bool.not_eq_true] at isTu
      rw [isTu]
      refine iteF ?_
      have z : sized d = false := by
        cases d <;> first | rfl | cases isTu
      rw [z] at q
      exact q
/-! ### is_ascending -/
def spAsc : Sp := fun vs H Q _ => ∃ (p : Addr) (n : Nat) (v : V) (d : PyData), vs = [.int n, v] ∧ Th p H v d ∧ fw d = true ∧ n ≤ 60 ∧ ∀ (b : Bool) (H' : Hp), Same H H' → (b = true ↔ IsAsc n d) → Q (.bl b) H'
theorem IsAsc.all {n : Nat} {ds : List PyData} (h : IsAsc n (.tuple ds)) : (ds.map (inR 0 ((n : Int) - 1))).all id = true := by
  obtain ⟨ns, e, r⟩ := h
  injection e with e1
  subst e1
  exact all_of r.2
theorem told_in {n : Nat} : ∀ {ds : List PyData} {bs : List Bool}, Told (fun y => inR 0 ((n : Int) - 1) y = true) bs ds → (bs.all id = true ↔ (ds.map (inR 0 ((n : Int) - 1))).all id = true) := fun {ds bs} t => by
  rw [t.all, List.all_map]
  constructor
  · intro h
    exact List.all_eq_true.mpr h
  · intro h
    exact List.all_eq_true.mp h
theorem ok_ascending {f : Addr} {fd : FuncData} {k : Nat} (F : Fun K "is_ascending" "is_ascending" sAscending f fd) (T : Defs K mg) : FnOk P w K mg base CX0 (k + 2) f fd ["keys", "value"] spAsc := by
  obtain ⟨fW, fdW, FW, bW, gW⟩ := T.within
  have GW : FnOk P w K mg base CX0 (k + 1) fW fdW ["value", "low", "high"] spWithin := ok_within FW T.zIsinstance T.zInt T.zBool
  refine F.ok scAsc (fun vs H Q E h => ?_) (fun cdv A outer s H vs Q E hr h => ?_)
  · obtain ⟨p, n, v, d, rfl, _⟩ := h
    rfl
  · obtain ⟨p, n, v, d, rfl, th, hfw, n60, q⟩ := h
    refine ⟨_, pss_cons (ps_if (PW.pt (pw_or (pt_not (pt_val (pe_callB call_isi (by rfl) T.zIsinstance (by decide +kernel) (pa_cons (pv 1) (pa_cons (pe_bltn (v := .ty "tuple") (by rfl) T.zTuple (by decide +kernel) rfl) pa_nil)))))
          (pw_or1 (pt_not (pt_val (pe_callB (cr_all rfl) (by rfl) T.zAll (by decide +kernel) (pa_cons (pe_lc (own := [("key", 2)]) (g := gName 2) (tt := tYes) rfl scAsc.nd (pi_tup (pv 1))
            (blkOk_by (own := [("key", 2)]) (N := nAsc) (sc := defScope sAscending) (by decide +kernel)) (fun _ _ _ _ _ => pg_name (i := 2) scAsc.nd rfl (Or.inl rfl)) (fun _ _ _ _ _ => pts_nil)
            (fun _ _ _ _ _ => pe_call GW hr (by rfl) gW FW.kp bW .nil pass0 (pa_cons (pv 2) (pa_cons pe_int (pa_cons (pe_op op_sub (pv 0) pe_int) pa_nil))))) pa_nil))))))) (pss_one (ps_ret pe_bl)) pss_nil)
      (pss_one (ps_ret (pe_callB (cr_all rfl) (by rfl) T.zAll (by decide +kernel) (pa_cons (pe_lc (own := [("key", 2), ("after", 3)]) (g := gTup K 2 (gCons (gName 2) (gCons (gName 3) gNil))) (tt := tYes) rfl scAsc.nd
          (RZ.pi_zipA (by rfl) T.zZip (pa_cons (pv 1) (pa_cons (pe_slice sl_tup1 (pv 1) (po_some pe_int) po_none) pa_nil)))
          (blkOk_by (own := [("key", 2), ("after", 3)]) (N := nAsc) (sc := defScope sAscending) (by decide +kernel))
          (fun _ _ _ _ _ => pg_tup rfl (pgs_cons (pg_name (i := 2) scAsc.nd rfl (Or.inl rfl)) (pgs_cons (pg_name (i := 3) scAsc.nd rfl (Or.inl rfl)) pgs_nil))) (fun _ _ _ _ _ => pts_nil)
          (fun _ _ _ _ _ => pe_cmpR op_lt (pv 2) (pv 3) (nomark _))) pa_nil)))), ?_⟩
    refine ⟨v, rfl, v, .ty "tuple", _, _, _, rfl, .ty "tuple", th.ty, kit_ty (kit_tuple d), _, rfl, ?_⟩
    by_cases isTu : isT d = true
    · rw [isTu]
      obtain ⟨a, xs, ds, rfl, rfl, ha, al⟩ := dt_tuple th isTu
      have few := (fw_tuple hfw).1
      refine ⟨.ref a, rfl, a, rfl, ⟨_, SqT.of ha⟩, fun D nD => ?_⟩
      refine lc_told (K := K) (F := fun y => inR 0 ((n : Int) - 1) y = true) ha al (by omega) nD (fun _ => rfl) (fun x y G Q' hy dy sm q' => ?_) (fun bs G sm told gd => ?_)
      · exact ⟨x, rfl, .int n, rfl, n, 1, rfl, rfl, p, x, y, 0, (n : Int) - 1, rfl, dy, q' _ G (Same.refl G) Iff.rfl⟩
      · refine ⟨D, _, rfl, SqL.of gd, _, rfl, ?_⟩
        have ti := told_in told
        by_cases e1 : bs.all id = true
        · rw [e1]
          obtain ⟨ns, rfl, inside⟩ := all_in (ti.mp e1)
          have ex : xs = ns.map V.int := al.ints
          subst ex
          rw [List.length_map] at few
          refine ⟨.ref a, rfl, .ref a, rfl, 1, rfl, rfl, rfl, a, _, rfl, sm _ _ ha, fun G2 t2 sm2 ht2 => ?_⟩
          refine ⟨a, t2, _, _, rfl, .inr ⟨SqT.of (sm2 _ _ (sm _ _ ha)), SqT.of ht2, fun D2 nD2 => ?_⟩⟩
          refine lc_zipT (K := K) (xs := ns.map V.int) (ys := (ns.map V.int).drop 1) (fun i G3 => Same G2 G3 ∧ G3 D2 = some (.lst (((adj ns).take i).map V.bl))) ⟨same_new nD2, upd_same⟩ (fun i G3 h => ⟨SqT.of (h.1 _ _ (sm2 _ _ (sm _ _ ha))), SqT.of (h.1 _ _ ht2)⟩) ?_ ?_
          · rintro i x y T2 G3 hx hy ⟨sm3, gd3⟩ nT
            have hx2 := hx
            have hy2 := hy
            rw [List.getElem?_map] at hx2
            rw [List.getElem?_drop, List.getElem?_map] at hy2
            obtain ⟨x', ex', rfl⟩ := Option.map_eq_some_iff.mp hx2
            obtain ⟨y', ey', rfl⟩ := Option.map_eq_some_iff.mp hy2
            have s4 := same_new (o := .tup [V.int x', V.int y']) nT
            refine ⟨T2, _, rfl, SqT.of upd_same, rfl, _, _, rfl, _, _, rfl, rfl, rfl, ?_⟩
            refine ⟨_, rfl, _, rfl, x', y', rfl, rfl, _, s4 _ _ gd3, ?_, fun c o hc => ?_, ?_⟩
            · rw [List.length_map, List.length_take]
              have : (adj ns).length ≤ ns.length := by simp [adj]
              exact small1000 (by omega)
            · rw [upd_ne (ne_of_none hc nD2)]
              exact s4 _ _ (sm3 _ _ hc)
            · have gi : (adj ns)[i]? = some (decide (x' < y')) := by
                unfold adj
                rw [List.getElem?_map, (List.getElem?_zip_eq_some (z := (x', y'))).mpr ⟨ex', by rw [List.getElem?_drop]; exact ey'⟩]
                rfl
              rw [upd_same, List.take_add_one, gi, List.map_append]
              rfl
          · rintro G3 ⟨sm3, gd3⟩
            rw [List.take_of_length_le (by simp [adj])] at gd3
            refine ⟨D2, _, rfl, SqL.of gd3, ?_⟩
            refine q _ G3 ((sm.trans sm2).trans sm3) ?_
            rw [adj_all, show PyData.tuple (ns.map PyData.int) = tupI ns from rfl, IsAsc.iff]
            exact ⟨fun h => ⟨h, inside⟩, fun h => h.1⟩
        · rw [Bool.not_eq_true] at e1
          rw [e1]
          refine q false G sm ⟨(fun z => by cases z), fun z => ?_⟩
          rw [ti.mpr z.all] at e1
          cases e1
    · rw [Bool.not_eq_true] at isTu
      rw [isTu]
      refine q false H (Same.refl H) ⟨(fun z => by cases z), ?_⟩
      rintro ⟨ns, rfl, _⟩
      cases isTu
/-! ### is_decided -/
def spDec : Sp := fun vs H Q _ => ∃ (t : Addr) (xs : List V) (nss : List (List Int)) (a b : Nat), vs = [.ref t, .int a, .int b] ∧ H t = some (.tup xs) ∧ RowsAt H xs nss ∧ a < nss.length ∧ b < nss.length ∧ Q (.bl (decide (Dec nss a b))) H
theorem ok_decided {f : Addr} {fd : FuncData} {k : Nat} (F : Fun K "is_decided" "is_decided" sDecided f fd) (T : Defs K mg) : FnOk P w K mg base CX0 (k + 1) f fd ["table", "a", "b"] spDec := by
  refine F.ok scDec (fun vs H Q E h => ?_) (fun cdv A outer s H vs Q E hr h => ?_)
  · obtain ⟨t, xs, nss, a, b, rfl, _⟩ := h
    rfl
  · obtain ⟨t, xs, nss, a, b, rfl, ht, rows, la, lb, q⟩ := h
    refine ⟨_, pss_cons (ps_if (pt_cmpR op_eq (pv 1) (pv 2) (nomark _)) (pss_one (ps_ret (pe_cmpR op_notIn_seq (pv 1) (pe_ix ix_tup (pv 0) (pv 1) (fun _ _ => rfl)) (by rfl)))) pss_nil)
      (pss_one (ps_ret (pe_cmpR op_ne (pe_cmpR op_in_seq (pv 2) (pe_ix ix_tup (pv 0) (pv 1) (fun _ _ => rfl)) (by rfl)) (pe_cmpR op_in_seq (pv 1) (pe_ix ix_tup (pv 0) (pv 2) (fun _ _ => rfl)) (by rfl)) (nomark _)))), ?_⟩
    obtain ⟨ta, xa, hta⟩ := rows.get a la
    obtain ⟨tb, xb, htb⟩ := rows.get b lb
    refine ⟨.int a, rfl, .int b, rfl, rfl, _, rfl, ite2 (fun e => ?_) (fun e => ?_)⟩
    · have eab : a = b := by
        have z := V.int.inj (of_decide_eq_true e)
        omega
      refine ⟨.int a, rfl, .ref t, rfl, .int a, rfl, t, xs, a, _, rfl, rfl, SqT.of ht, atI_nat xa, ta, _, rfl, .inr (SqT.of hta), rfl, flat_ints _, ?_⟩
      rw [in_ints]
      have z : (if true = true then !decide ((a : Int) ∈ nss.getD a []) else decide ((a : Int) ∈ nss.getD a [])) = decide (Dec nss a b) := by
        rw [if_pos rfl, ← decide_not]
        refine decide_eq_decide.mpr ?_
        unfold Dec
        rw [if_pos eab]
      rw [z]
      exact q
    · have eab : a ≠ b := fun z => e (decide_eq_true (by rw [z]))
      refine ⟨.int b, rfl, .ref t, rfl, .int a, rfl, t, xs, a, _, rfl, rfl, SqT.of ht, atI_nat xa, ta, _, rfl, .inr (SqT.of hta), rfl, flat_ints _, ?_⟩
      refine ⟨.int a, rfl, .ref t, rfl, .int b, rfl, t, xs, b, _, rfl, rfl, SqT.of ht, atI_nat xb, tb, _, rfl, .inr (SqT.of htb), rfl, flat_ints _, ?_⟩
      rw [in_ints, in_ints, if_neg (by decide), if_neg (by decide)]
      refine ⟨rfl, ?_⟩
      have z : (!decide (V.bl (decide ((b : Int) ∈ nss.getD a [])) = V.bl (decide ((a : Int) ∈ nss.getD b [])))) = decide (Dec nss a b) := by
        rw [← decide_not]
        refine decide_eq_decide.mpr ?_
        unfold Dec
        rw [if_neg eab]
        by_cases h1 : (b : Int) ∈ nss.getD a []
        · by_cases h2 : (a : Int) ∈ nss.getD b []
          · rw [decide_eq_true h1, decide_eq_true h2]
            exact ⟨fun z => absurd rfl z, fun z => absurd h2 (z.mp h1)⟩
          · rw [decide_eq_true h1, decide_eq_false h2]
            exact ⟨fun _ => ⟨fun _ => h2, fun _ => h1⟩, fun _ z => by cases z⟩
        · by_cases h2 : (a : Int) ∈ nss.getD b []
          · rw [decide_eq_false h1, decide_eq_true h2]
            exact ⟨fun _ => ⟨fun z => absurd z h1, fun z => absurd h2 z⟩, fun _ z => by cases z⟩
          · rw [decide_eq_false h1, decide_eq_false h2]
            exact ⟨fun z => absurd rfl z, fun z => absurd (z.mpr h2) h1⟩
      rw [z]
      exact q
end
end SL

namespace SL
open PySem PySem.Spec PyProof.Rows L2
theorem all_snoc (bs : List Bool) (b : Bool) : (bs ++ [b]).all id = true ↔ bs.all id = true ∧ b = true := by
  rw [List.all_append, Bool.and_eq_true]
  simp
section
variable {P : Program} {w : World} {K : PySem.W.Frag} {mg : Str → Option Value} {base : Heap}
/-! ### is_table -/
def spTable : Sp := fun vs H Q _ => ∃ (p : Addr) (n : Nat) (v : V) (d : PyData), vs = [.int n, v] ∧ Th p H v d ∧ fw d = true ∧ n ≤ 16 ∧ ∀ (b : Bool) (H' : Hp), Same H H' → (b = true ↔ IsTb n d) → Q (.bl b) H'
theorem ok_table {f : Addr} {fd : FuncData} {k : Nat} (F : Fun K "is_table" "is_table" sTable f fd) (T : Defs K mg) : FnOk P w K mg base CX0 (k + 3) f fd ["keys", "value"] spTable := by
  obtain ⟨fA, fdA, FA, bA, gA⟩ := T.ascending
  obtain ⟨fD, fdD, FD, bD, gD⟩ := T.decided
  have GA : FnOk P w K mg base CX0 (k + 2) fA fdA ["keys", "value"] spAsc := ok_ascending FA T
  have GD : FnOk P w K mg base CX0 (k + 1) fD fdD ["table", "a", "b"] spDec := ok_decided FD T
  refine F.ok scTab (fun vs H Q E h => ?_) (fun cdv A outer s H vs Q E hr h => ?_)
  · obtain ⟨p, n, v, d, rfl, _⟩ := h
    rfl
  · obtain ⟨p, n, v, d, rfl, th, hfw, n16, q⟩ := h
    have hr1 : Room (k + 1) _ := hr.mono (by omega)
    refine ⟨_, pss_cons (ps_if (PW.pt (pw_or (pt_not (pt_val (pe_callB call_isi (by rfl) T.zIsinstance (by decide +kernel) (pa_cons (pv 1) (pa_cons (pe_bltn (v := .ty "tuple") (by rfl) T.zTuple (by decide +kernel) rfl) pa_nil)))))
          (pw_or1 (pt_cmpR op_ne (pe_callB call_len_seq (by rfl) T.zLen PySem.boot_len (pa_cons (pv 1) pa_nil)) (pv 0) (nomark _))))) (pss_one (ps_ret pe_bl)) pss_nil)
      (pss_cons (ps_if (pt_not (pt_val (pe_callB (cr_all rfl) (by rfl) T.zAll (by decide +kernel) (pa_cons (pe_lc (own := [("beaten", 2)]) (g := gName 2) (tt := tYes) rfl scTab.nd (pi_tup (pv 1))
            (blkOk_by (own := [("beaten", 2)]) (N := nTab) (sc := defScope sTable) (by decide +kernel)) (fun _ _ _ _ _ => pg_name (i := 2) scTab.nd rfl (Or.inl rfl)) (fun _ _ _ _ _ => pts_nil)
            (fun _ _ _ _ _ => pe_call GA hr (by rfl) gA FA.kp bA .nil pass0 (pa_cons (pv 0) (pa_cons (pv 2) pa_nil)))) pa_nil)))) (pss_one (ps_ret pe_bl)) pss_nil)
      (pss_one (ps_ret (pe_callB (cr_all rfl) (by rfl) T.zAll (by decide +kernel) (pa_cons (pe_lc2 (own := [("a", 3), ("b", 4)]) (vs1 := [4]) (g := gName 3) (tt := tYes) (g1 := gName 4) (tt1 := tYes) rfl scTab.nd
            (pi_range1 rfl T.zRange (pa_cons (pv 0) pa_nil)) (blkOk_by (own := [("a", 3), ("b", 4)]) (N := nTab) (sc := defScope sTable) (by decide +kernel)) (by decide)
            (fun _ _ _ _ _ => pg_name (i := 3) scTab.nd rfl (Or.inl rfl)) (fun _ _ _ _ _ => pts_nil) (fun _ _ _ _ _ => pi_range1 rfl T.zRange (pa_cons (pe_op op_add (pv 3) pe_int) pa_nil))
            (fun _ _ _ _ _ => pg_name (i := 4) scTab.nd rfl (Or.inl rfl)) (fun _ _ _ _ _ => pts_nil)
            (fun _ _ _ _ _ => pe_call GD hr1 (by rfl) gD FD.kp bD .nil pass0 (pa_cons (pv 1) (pa_cons (pv 3) (pa_cons (pv 4) pa_nil))))) pa_nil))))), ?_⟩
    refine ⟨v, rfl, v, .ty "tuple", _, _, _, rfl, .ty "tuple", th.ty, kit_ty (kit_tuple d), _, rfl, ?_⟩
    by_cases isTu : isT d = true
    · rw [isTu]
      obtain ⟨a, xs, ds, rfl, rfl, ha, al⟩ := dt_tuple th isTu
      have lenx := al.len
      have few := (fw_tuple hfw).1
      refine ⟨.ref a, rfl, a, xs, rfl, .inr (SqT.of ha), .int n, rfl, rfl, _, rfl, ite2 (fun e => ?_) (fun e => ?_)⟩
      · refine q false H (Same.refl H) ⟨(fun z => by cases z), ?_⟩
        rintro ⟨nss, ez, tb⟩
        injection ez with ez1
        have ne : ¬ ((xs.length : Int) = n) := fun w => by
          rw [w] at e
          simp at e
        refine absurd ?_ ne
        rw [lenx, ez1, List.length_map, tb.1]
      · have eq : (xs.length : Int) = n := by
          by_cases w : (xs.length : Int) = n
          · exact w
          · refine absurd ?_ e
            simp [w]
        refine ⟨.ref a, rfl, a, rfl, ⟨_, SqT.of ha⟩, fun D nD => ?_⟩
        refine lc_told (K := K) (F := IsAsc n) ha al (by omega) nD (fun _ => rfl) (fun x y G Q' hy dy sm q' => ?_) (fun bs G sm told gd => ?_)
        · exact ⟨.int n, rfl, x, rfl, p, n, x, y, rfl, .dat dy, (fw_tuple hfw).2 y hy, by omega, fun b G1 sm1 ib => q' b G1 sm1 ib⟩
        · refine ⟨D, _, rfl, SqL.of gd, _, rfl, ?_⟩
          by_cases e1 : bs.all id = true
          · rw [e1]
            obtain ⟨nss, rfl, rws⟩ := rows_of (told.all.mp e1)
            have rows : RowsAt H xs nss := rows_dt al
            rw [List.length_map] at lenx
            have ln : nss.length = n := by omega
            refine ⟨.int n, rfl, n, rfl, by omega, by omega, fun D2 nD2 => ?_⟩
            have en : ((n : Int)).toNat = n := by omega
            refine ⟨fun i m G2 => m = n - i ∧ i ≤ n ∧ Same G G2 ∧ ∃ cs : List Bool, G2 D2 = some (.lst (cs.map V.bl)) ∧ cs.length ≤ 20 * i ∧ (cs.all id = true ↔ ∀ a b : Nat, a < i → b ≤ a → Dec nss a b), ⟨n, rfl, by omega, same_new nD2, [], upd_same, by simp, by simp⟩, ?_⟩
            rintro i m G2 ⟨rfl, hi, sm2, cs, gd2, lcs, iff2⟩
            by_cases lt : i < n
            · refine Or.inr ⟨by show i < ((n : Int)).toNat; omega, fun G3 => Same G G3 ∧ ∃ cs : List Bool, G3 D2 = some (.lst (cs.map V.bl)) ∧ cs.length ≤ 20 * (i + 1) ∧ (cs.all id = true ↔ ∀ a b : Nat, a < i + 1 → b ≤ a → Dec nss a b), fun G3 h3 => ⟨n - (i + 1), by omega, rfl, by omega, h3⟩, ?_⟩
              rintro x G3 ⟨rfl, rfl⟩
              refine ⟨rfl, ?_⟩
              refine ⟨_, rfl, _, 1, rfl, rfl, _, rfl, by omega, by omega, ?_⟩
              refine ⟨fun j m G4 => m = (i + 1) - j ∧ j ≤ i + 1 ∧ Same G G4 ∧ ∃ cs : List Bool, G4 D2 = some (.lst (cs.map V.bl)) ∧ cs.length ≤ 20 * i + j ∧ (cs.all id = true ↔ (∀ a b : Nat, a < i → b ≤ a → Dec nss a b) ∧ ∀ b : Nat, b < j → Dec nss i b), ⟨i + 1, rfl, by omega, sm2, cs, gd2, by omega, by rw [iff2]; simp⟩, ?_⟩
              rintro j m G4 ⟨rfl, hj, sm4, cs4, gd4, lcs4, iff4⟩
              by_cases ltj : j < i + 1
              · refine Or.inr ⟨by show j < ((0 + (i : Int)) + 1).toNat; omega, fun G5 => Same G G5 ∧ ∃ cs : List Bool, G5 D2 = some (.lst (cs.map V.bl)) ∧ cs.length ≤ 20 * i + (j + 1) ∧ (cs.all id = true ↔ (∀ a b : Nat, a < i → b ≤ a → Dec nss a b) ∧ ∀ b : Nat, b < j + 1 → Dec nss i b), fun G5 h5 => ⟨(i + 1) - (j + 1), by omega, rfl, by omega, h5⟩, ?_⟩
                rintro x G5 ⟨rfl, rfl⟩
                refine ⟨rfl, ?_⟩
                refine ⟨.ref a, rfl, _, rfl, _, rfl, a, xs, nss, 0 + i, 0 + j, rfl, sm4 _ _ (sm _ _ ha), rows.keep (Same.tk (sm.trans sm4)), by omega, by omega, ?_⟩
                refine ⟨_, gd4, ?_, fun c o hc => ?_, cs4 ++ [decide (Dec nss (0 + i) (0 + j))], ?_, ?_, ?_⟩
                · rw [List.length_map]
                  exact small1000 (by omega)
                · rw [upd_ne (ne_of_none hc nD2)]
                  exact sm4 _ _ hc
                · rw [upd_same, List.map_append]
                  rfl
                · rw [List.length_append]
                  show cs4.length + 1 ≤ _
                  omega
                · rw [all_snoc, iff4, decide_eq_true_eq, Nat.zero_add, Nat.zero_add]
                  constructor
                  · rintro ⟨⟨h1, h2⟩, h3⟩
                    refine ⟨h1, fun b hb => ?_⟩
                    by_cases z : b = j
                    · rw [z]
                      exact h3
                    · exact h2 b (by omega)
                  · rintro ⟨h1, h2⟩
                    exact ⟨⟨h1, fun b hb => h2 b (by omega)⟩, h2 j (by omega)⟩
              · have ej : j = i + 1 := by omega
                subst ej
                refine Or.inl ⟨by show ((0 + (i : Int)) + 1).toNat ≤ i + 1; omega, sm4, cs4, gd4, by omega, ?_⟩
                rw [iff4]
                constructor
                · rintro ⟨h1, h2⟩ a' b' l1 l2
                  by_cases z : a' = i
                  · rw [z]
                    exact h2 b' (by omega)
                  · exact h1 a' b' (by omega) l2
                · intro h
                  exact ⟨fun a' b' l1 l2 => h a' b' (by omega) l2, fun b' l => h i b' (by omega) (by omega)⟩
            · have ei : i = n := by omega
              refine Or.inl ⟨by show ((n : Int)).toNat ≤ i; omega, ?_⟩
              refine ⟨D2, _, rfl, SqL.of gd2, ?_⟩
              refine q _ G2 (sm.trans sm2) ?_
              rw [iff2, IsTb.iff, ei]
              exact ⟨fun h => ⟨ln, rws, h⟩, fun h => h.2.2⟩
          · rw [Bool.not_eq_true] at e1
            rw [e1]
            refine q false G sm ⟨(fun z => by cases z), ?_⟩
            rintro ⟨nss, ez, tb⟩
            injection ez with ez1
            have z : bs.all id = true := told.all.mpr fun y hy => by
              rw [ez1] at hy
              obtain ⟨ns, hn, rfl⟩ := List.mem_map.mp hy
              exact ⟨ns, rfl, tb.2.1 ns hn⟩
            rw [z] at e1
            cases e1
    · rw [Bool.not_eq_true] at isTu
      rw [isTu]
      refine q false H (Same.refl H) ⟨(fun z => by cases z), ?_⟩
      rintro ⟨ns, rfl, _⟩
      cases isTu
/-! ### are_keys -/
end
end SL

namespace SL
open PySem PySem.Spec PyProof.Rows L2
section
variable {P : Program} {w : World} {K : PySem.W.Frag} {mg : Str → Option Value} {base : Heap}
/-! ### the law's own look at a table -/
def spRule : Sp := fun vs H Q _ => ∃ (p : Addr) (v : V) (d : PyData), vs = [v] ∧ Th p H v d ∧ fw d = true ∧ ∀ (b : Bool) (H' : Hp), Same H H' → (b = true ↔ IsR d) → Q (.bl b) H'
theorem ok_rule {f : Addr} {fd : FuncData} {k : Nat} (F : Fun K "is_rule" "is_rule" sRule f fd) (T : Defs K mg) : FnOk P w K mg base CX0 (k + 4) f fd ["value"] spRule := by
  obtain ⟨fO, fdO, FO, bO, gO⟩ := T.table
  obtain ⟨fS, fdS, FS, bS, gS⟩ := T.sized
  have GO : FnOk P w K mg base CX0 (k + 3) fO fdO ["keys", "value"] spTable := ok_table FO T
  have GS : FnOk P w K mg base CX0 (k + 1) fS fdS ["value"] spSized := ok_sized FS T
  refine F.ok scRule (fun vs H Q E h => ?_) (fun cdv A outer s H vs Q E hr h => ?_)
  · obtain ⟨p, v, d, rfl, _⟩ := h
    rfl
  · obtain ⟨p, v, d, rfl, th, hfw, q⟩ := h
    have hr1 : Room (k + 1) _ := hr.mono (by omega)
    refine ⟨_, pss_cons (ps_if (PW.pt (pw_or (pt_not (pt_val (pe_call GS hr1 (by rfl) gS FS.kp bS .nil pass0 (pa_cons (pv 0) pa_nil))))
          (pw_or1 (pt_not (pt_val (pe_call GS hr1 (by rfl) gS FS.kp bS .nil pass0 (pa_cons (pe_ix ix_tup (pv 0) pe_int (fun _ _ => rfl)) pa_nil))))))) (pss_one (ps_ret pe_bl)) pss_nil)
      (pss_cons (ps_set (i := 1) scRule.nd rfl (.inr rfl) (pe_callB call_len_seq (by rfl) T.zLen PySem.boot_len (pa_cons (pe_ix ix_tup (pv 0) pe_int (fun _ _ => rfl)) pa_nil)))
      (pss_one (ps_ret (pe_callB (cr_all rfl) (by rfl) T.zAll (by decide +kernel) (pa_cons (pe_lc (own := [("table", 2)]) (g := gName 2) (tt := tYes) rfl scRule.nd (pi_tup (pv 0))
          (blkOk_by (own := [("table", 2)]) (N := nRule) (sc := defScope sRule) (by decide +kernel)) (fun _ _ _ _ _ => pg_name (i := 2) scRule.nd rfl (Or.inl rfl)) (fun _ _ _ _ _ => pts_nil)
          (fun _ _ _ _ _ => pe_call GO hr (by rfl) gO FO.kp bO .nil pass0 (pa_cons (pv 1) (pa_cons (pv 2) pa_nil)))) pa_nil))))), ?_⟩
    refine ⟨v, rfl, p, v, d, rfl, th, _, rfl, ?_⟩
    by_cases sz : sized d = true
    · rw [sz]
      obtain ⟨a, xs, ds, rfl, rfl, ha, al⟩ := dt_tuple th (by cases d <;> first | rfl | cases sz)
      have lenx := al.len
      have sz' : (decide (1 ≤ ds.length) && decide (ds.length ≤ 16)) = true := sz
      rw [Bool.and_eq_true, decide_eq_true_eq, decide_eq_true_eq] at sz'
      obtain ⟨x0, hx0⟩ : ∃ x0, xs[0]? = some x0 := ⟨xs[0], List.getElem?_eq_getElem (by omega)⟩
      obtain ⟨d0, hd0, dt0⟩ := al.get 0 x0 hx0
      refine ⟨.ref a, rfl, a, xs, 0, x0, rfl, rfl, SqT.of ha, atI_nat (j := 0) hx0, p, x0, d0, rfl, .dat dt0, _, rfl, ?_⟩
      by_cases sz0 : sized d0 = true
      · rw [sz0]
        obtain ⟨a0, xs0, es, rfl, rfl, ha0, al0⟩ := dt_tuple (.dat dt0) (by cases d0 <;> first | rfl | cases sz0)
        have len0 := al0.len
        have sz0' : (decide (1 ≤ es.length) && decide (es.length ≤ 16)) = true := sz0
        rw [Bool.and_eq_true, decide_eq_true_eq, decide_eq_true_eq] at sz0'
        refine ⟨.ref a, rfl, a, xs, 0, .ref a0, rfl, rfl, SqT.of ha, atI_nat (j := 0) hx0, a0, xs0, rfl, .inr (SqT.of ha0), ?_⟩
        refine ⟨.ref a, rfl, a, rfl, ⟨_, SqT.of ha⟩, fun D nD => ?_⟩
        refine lc_told (K := K) (F := IsTb es.length) ha al (by omega) nD (fun _ => rfl) (fun x y G Q' hy dy sm q' => ?_) (fun bs G sm told gd => ?_)
        · refine ⟨_, rfl, x, rfl, p, es.length, x, y, ?_, .dat dy, (fw_tuple hfw).2 y hy, by omega, fun b G1 sm1 ib => q' b G1 sm1 ib⟩
          show [V.int (xs0.length : Int), x] = [V.int (es.length : Int), x]
          rw [len0]
        · refine ⟨D, _, rfl, SqL.of gd, ?_⟩
          refine q _ G sm ?_
          rw [told.all]
          constructor
          · intro h
            exact ⟨ds, es, rfl, sz'.2, hd0, sz0'.1, sz0'.2, h⟩
          · rintro ⟨ds', es', e1, _, e2, _, _, h⟩
            cases e1
            rw [hd0] at e2
            cases e2
            exact h
      · rw [Bool.not_eq_true] at sz0
        rw [sz0]
        refine q false H (Same.refl H) ⟨(fun z => by cases z), ?_⟩
        rintro ⟨ds', es', e1, _, e2, e3, e4, _⟩
        cases e1
        rw [hd0] at e2
        cases e2
        have z : (decide (1 ≤ es'.length) && decide (es'.length ≤ 16)) = false := sz0
        rw [decide_eq_true e3, decide_eq_true e4] at z
        cases z
    · rw [Bool.not_eq_true] at sz
      rw [sz]
      refine q false H (Same.refl H) ⟨(fun z => by cases z), ?_⟩
      rintro ⟨ds', es', rfl, e1, e2, _⟩
      have z : (decide (1 ≤ ds'.length) && decide (ds'.length ≤ 16)) = false := sz
      have pos : 1 ≤ ds'.length := by
        have := (List.getElem?_eq_some_iff.mp e2).1
        omega
      rw [decide_eq_true pos, decide_eq_true e1] at z
      cases z
end
end SL

namespace SL
open PySem PySem.Spec PyProof.Rows L2
/-- f(k = v, ..), nothing by place -/
theorem pe_callK0 {X : Cx} {CX : CXT} {k : Nat} {f : Addr} {fd : FuncData} {ps ks : List Str} {sp : Sp} {E : XK} {x : Str} {p pos : Pos} {kws : List Keyword} {tk : TA} {g : List Value → List Value → List Value} {gV : List V → List V → List V}
    (F : FnOk X.prog X.w X.K X.mg X.base CX k f fd ps sp) (room : Room k X.A) (gl : Gl X x) (at_ : X.mg x = some (.ref f)) (keep : PySem.W.keepIn X.K (.ref f) = true) (kb : KBinds X.K fd ps ks g gV) (ps_ : Passes CX X E) (kw : PK X kws tk)
    (h1 : (backToKw pos (keywordEach kws X.env)).all (·.1.isSome) = true := by rfl) (h2 : (backToKw pos (keywordEach kws X.env)).filterMap (·.1) = ks := by rfl)
    (h3 : ((backTo pos (starEach [] X.env)).any (·.1) || (backToKw pos (keywordEach kws X.env)).any (·.1.isNone)) = false := by rfl) (h4 : (x == ("__debug__" : Str)) = false := by decide) :
    PE X (.Call (.Name x p) [] kws pos) (tCallK sp gV E tNil tk) := by
  constructor
  intro pins s σ H Q I h
  refine wpAny_Call_Name_kw (ld_glob I gl at_ ?_ h4)
  refine PySem.W.callWith_KW0 (h₀ := X.base) I.ok.mod.kin keep h1 (thn (kw.run pos pins s σ H _ I h) ?_) h3
  rintro ws s2 ⟨zs, H2, I2, rz, q2⟩
  refine ⟨I2.kIn, ?_⟩
  rw [h2]
  exact run_fnk (us := []) (vs := []) F room kb ps_ I2 .nil rz q2
/-- f(k = v) of a def of one parameter -/
def oneK {α : Type} : List α → List α → List α
  | [], [a] => [a]
  | _, _ => []
theorem kb_one {K : PySem.W.Frag} {fd : FuncData} {x : Str} (h : ∀ a : Value, bindArgs fd ⟨[], [(x, a)]⟩ = pure [(x, a)]) : KBinds K fd [x] [x] oneK oneK := by
  constructor
  · intro s us ws _ hl
    match us, ws, hl with
    | [], [a], _ => exact .of_eq (h a)
    | [], [], hl => cases hl
    | [], _ :: _ :: _, hl => cases hl
    | _ :: _, _, hl => cases hl
  · intro vs us zs ws r rz
    cases r with
    | nil =>
      cases rz with
      | nil => exact .nil
      | cons r1 t1 =>
        cases t1 with
        | nil => exact .cons r1 .nil
        | cons _ _ => exact .nil
    | cons _ _ => exact .nil
theorem Good.fits {d : PyData} (h : Good d) : d.showable = true ∧ d.depth ≤ 50 ∧ d.shown.length ≤ sizeLine := by
  obtain ⟨a, b, c, _⟩ := h
  refine ⟨a, by omega, ?_⟩
  rw [sizeLine_eq]
  omega
/-- what may be asked about -/
def Fine (p : Addr) (H : Hp) (x : V) : Prop := ∃ d, Th p H x d ∧ Good d
theorem Fine.same {p : Addr} {H H' : Hp} {x : V} (h : Fine p H x) (s : Same H H') : Fine p H' x := by
  obtain ⟨d, a, b⟩ := h
  exact ⟨d, a.same s, b⟩
theorem Nd.fine {p : Addr} {k c : Nat} {H : Hp} {x : V} (h : Nd p k c H x) (hk : k ≤ 20) (hc : c ≤ 10000000) : Fine p H x := by
  obtain ⟨d, a, b⟩ := h
  exact ⟨d, .dat a, b.mono hk hc⟩
end SL

namespace SL
open PySem PySem.Spec PyProof.Rows L2
theorem cutFrom (xs : List V) (k : Nat) : cutV xs (some (k : Int)) none = xs.drop k := by
  unfold cutV
  rw [show HT.sIx xs.length 0 (some (k : Int)) = min k xs.length from HT.sIx_nat xs.length 0 k, HT.sIx_none]
  by_cases h : k ≤ xs.length
  · rw [Nat.min_eq_left h]
    exact List.take_of_length_le (by rw [List.length_drop]; omega)
  · rw [Nat.min_eq_right (by omega), List.drop_length, List.drop_eq_nil_of_le (by omega)]
    simp
/-- x stands behind a in an order -/
def Behind (ns : List Int) (a x : Int) : Prop := ∃ j m : Nat, ns[j]? = some a ∧ ns[m]? = some x ∧ j < m
theorem behind_drop {ns : List Int} (nd : ns.Nodup) {a x : Int} {j : Nat} (hj : ns[j]? = some a) : x ∈ ns.drop (j + 1) ↔ Behind ns a x := by
  rw [List.mem_iff_getElem?]
  constructor
  · rintro ⟨i, hi⟩
    rw [List.getElem?_drop] at hi
    exact ⟨j, j + 1 + i, hj, hi, by omega⟩
  · rintro ⟨j', m, h1, h2, lt⟩
    have e := nd_ix nd hj h1
    subst e
    refine ⟨m - (j + 1), ?_⟩
    rw [List.getElem?_drop]
    rw [show j + 1 + (m - (j + 1)) = m by omega]
    exact h2
theorem order_table {n : Nat} {ns : List Int} {nss : List (List Int)} (perm : ns.Perm (R n)) (len : nss.length = n) (rows : ∀ a : Nat, a < n → (nss.getD a []).Pairwise (· < ·) ∧ ∀ x, x ∈ nss.getD a [] ↔ Behind ns a x) : Tb n nss := by
  have nd : ns.Nodup := perm.nodup_iff.mpr (R_nodup n)
  have at_ : ∀ a : Nat, a < n → ∃ j : Nat, ns[j]? = some (a : Int) := fun a ha => by
    have m : (a : Int) ∈ ns := perm.mem_iff.mpr (R_mem.mpr (by omega))
    exact List.mem_iff_getElem?.mp m
  refine ⟨len, fun ms hm => ?_, fun a b la lb => ?_⟩
  · obtain ⟨i, hi⟩ := List.mem_iff_getElem?.mp hm
    have li : i < nss.length := (List.getElem?_eq_some_iff.mp hi).1
    have e : nss.getD i [] = ms := by rw [List.getD_eq_getElem?_getD, hi]; rfl
    have r := rows i (by omega)
    rw [e] at r
    refine ⟨r.1, fun y hy => ?_⟩
    obtain ⟨_, m, _, h2, _⟩ := (r.2 y).mp hy
    exact perm.mem_iff.mp (List.mem_of_getElem? h2)
  · obtain ⟨ja, ha⟩ := at_ a la
    obtain ⟨jb, hb⟩ := at_ b (by omega)
    unfold Dec
    by_cases e : a = b
    · rw [if_pos e]
      intro h
      obtain ⟨j, m, h1, h2, lt⟩ := ((rows a la).2 a).mp h
      have := nd_ix nd h1 h2
      omega
    · rw [if_neg e, (rows a la).2, (rows b (by omega)).2]
      have ne : ja ≠ jb := fun z => by
        rw [z, hb] at ha
        have := Option.some.inj ha
        omega
      constructor
      · rintro ⟨j, m, h1, h2, lt⟩ ⟨j', m', h1', h2', lt'⟩
        have e1 := nd_ix nd h1 h2'
        have e2 := nd_ix nd h2 h1'
        omega
      · intro h
        refine ⟨ja, jb, ha, hb, ?_⟩
        rcases Nat.lt_or_ge ja jb with z | z
        · exact z
        · exact absurd ⟨jb, ja, hb, ha, by omega⟩ h
/-- tuple(xs), by a name -/
def rTupOf (K : PySem.W.Frag) : List V → Hp → VK → Prop := fun xs H Q => ∃ p ys, xs = [.ref p] ∧ ((SqL K H p ys ∧ ∀ l, H l = none → Q (.ref l) (upd H l (.tup ys))) ∨ (SqT K H p ys ∧ Q (.ref p) H))
theorem call_tupOf {X : Cx} : CallR X (.type "tuple") (rTupOf X.K) := call_tuple_of
/-- a tuple that is known to the last -/
def FzT (H : Hp) (a : Addr) (xs : List V) : Prop := ∃ o : Obj, H a = some (.frz o (.tup xs)) ∧ o.dict = none
theorem FzT.sq {K : PySem.W.Frag} {H : Hp} {a : Addr} {xs : List V} (h : FzT H a xs) : SqT K H a xs := by
  obtain ⟨o, e, _⟩ := h
  exact Or.inl (Or.inr ⟨o, e⟩)
theorem FzT.same {H H' : Hp} {a : Addr} {xs : List V} (h : FzT H a xs) (s : Same H H') : FzT H' a xs := by
  obtain ⟨o, e, d⟩ := h
  exact ⟨o, s _ _ e, d⟩
/-- tuple(a list), known to the last -/
def rTupF (K : PySem.W.Frag) : List V → Hp → VK → Prop := fun xs H Q => ∃ p ys, xs = [.ref p] ∧ SqL K H p ys ∧ ∀ (l : Addr) (o : Obj), H l = none → o.dict = none → Q (.ref l) (upd H l (.frz o (.tup ys)))
theorem call_tupF {X : Cx} : CallR X (.type "tuple") (rTupF X.K) := by
  intro pins s σ H xs us Q I r h
  obtain ⟨p, ys, rfl, sq, q⟩ := h
  obtain ⟨u, rfl, rx⟩ := vals1 r
  cases rx
  obtain ⟨its, rv, pl, few⟩ := I.list sq
  have len := rv.length
  refine call_tuple_list pl.isList (fun g kp => ?_) (by rw [List.size_toArray]; omega)
  have I1 : Inv X pins σ H { s with heap := g } := I.kept (t' := s.toks) kp
  have new : (g.push { cls := .type "tuple", data := .seq its.toArray }).get? g.objs.size = some { cls := .type "tuple", data := .seq its.toArray } := Heap.get?_push_size _ rfl
  exact ⟨.ref g.objs.size, _, I1.laid (t' := s.toks) (o := .frz { cls := .type "tuple", data := .seq its.toArray } (.tup ys)) (fun b o e => Heap.get?_push_of_some _ e) (Nat.le_refl _) ⟨new, few, its, rv, _, new, rfl, _, rfl⟩, rfl, q _ _ (I1.hok.fresh (Nat.le_refl _)) rfl⟩
/-- t.m(..), t such a tuple -/
def tBMF (r : V → List V → Hp → VK → Prop) (to : TE) (t : TA) : TE := fun σ H Q => to σ H fun x H1 => (∃ p xs, x = .ref p ∧ FzT H1 p xs) ∧ t σ H1 fun vs H2 => r x vs H2 Q
theorem pe_bmF {X : Cx} {o e : Expr} {es : List Expr} {to : TE} {t : TA} {name : Str} {apos cpos : Pos} {id : String} {r : V → List V → Hp → VK → Prop} (pa : PlainAttrs "tuple") (slot : Slot "tuple" name id) (ty : typeOf (.builtin id) = pure (.type "method_descriptor")) (hm : MtR X id r) (ho : PE X o to) (ha : PA X (e :: es) t)
    (h1 : attributeBase o name X.env (eval o X.env) = eval o X.env := by rfl)
    (h2 : ((backTo cpos (starEach (e :: es) X.env)).all (fun x => !x.1) && (backToKw cpos (keywordEach [] X.env)).all (fun x => x.1.isSome) && decide ((e :: es).length + ([] : List Keyword).length + (if ([] : List Keyword).isEmpty then 0 else 1) < 30)) = true := by rfl)
    (h3 : (apos.endLine == cpos.line) = true := by rfl) (h4 : starEach (e :: es) X.env = (false, eval e X.env) :: starEach es X.env := by rfl) (h5 : (backTo cpos (starEach es X.env)).any (·.1) = false := by rfl) :
    PE X (.Call (.Attribute o name apos) (e :: es) [] cpos) (tBMF r to t) := by
  constructor
  intro pins s σ H Q I h
  refine wpAny_Call_method_late h1 h2 h3 rfl (thn (ho.run pins s σ H _ I h) ?_)
  rintro v s1 ⟨x, H1, I1, r1, ⟨p, xs, rfl, ob, hp, dn⟩, q1⟩
  obtain rfl : v = Value.ref p := r1
  obtain ⟨at_, _, its, _, ob2, at2, cl, _⟩ := I1.hok p _ hp
  rw [at_] at at2
  cases at2
  refine ⟨"tuple", id, pa, slot, ty, ⟨ob, at_, cl⟩, fun a ea => ?_, ?_⟩
  · cases ea
    exact ⟨ob, at_, dn⟩
  · have run := ha.run cpos pins s1 σ H1 _ I1 q1
    rw [h4] at run ⊢
    refine Calls.callWith_builtin (by show (false || (backTo cpos (starEach es X.env)).any (·.1)) = false; rw [h5]; rfl) (Calls.evalArgs_plain ?_)
    refine thn run ?_
    rintro us s2 ⟨vs, H2, I2, r2, q2⟩
    exact hm pins s2 σ H2 (.ref p) vs _ us Q I2 rfl r2 q2
/-- t[k:], k at least 1 -/
def rSlF (K : PySem.W.Frag) : V → Option Int → Option Int → Hp → VK → Prop := fun x lo hi H Q => ∃ (k : Nat) (a : Addr) (xs : List V), lo = some ((k + 1 : Nat) : Int) ∧ hi = none ∧ x = .ref a ∧ SqT K H a xs ∧ ∀ (H' : Hp) (t : Addr), Same H H' → SqT K H' t (xs.drop (k + 1)) → Q (.ref t) H'
theorem sl_tupF {X : Cx} : SlR X (rSlF X.K) := by
  intro pins s σ H x v vl vu lo hi sl Q I rx hs pl pu h
  obtain ⟨k, a, xs, rfl, rfl, rfl, ha, q⟩ := h
  refine sl_tupA pins s σ H _ v vl vu _ _ sl Q I rx hs pl pu ⟨a, xs, rfl, ha, fun whole => ?_, fun _ p np => ?_⟩
  · have e : xs = [] := by
      have z := whole.1
      rw [show HT.sIx xs.length 0 (some ((k + 1 : Nat) : Int)) = min (k + 1) xs.length from HT.sIx_nat xs.length 0 (k + 1)] at z
      cases xs with
      | nil => rfl
      | cons x r =>
        rw [List.length_cons] at z
        omega
    subst e
    exact q H a (Same.refl H) ha
  · rw [cutFrom]
    exact q _ p (same_new np) (SqT.of upd_same)
/-- t.index(i), a tuple of numbers -/
def rIndexT (K : PySem.W.Frag) : V → List V → Hp → VK → Prop := fun x xs H Q => ∃ (p : Addr) (ns : List Int) (z : Int) (j : Nat), x = .ref p ∧ xs = [.int z] ∧ SqT K H p (ns.map V.int) ∧ ns[j]? = some z ∧ (∀ m, m < j → ns[m]? ≠ some z) ∧ Q (.int (j : Nat)) H
theorem mt_tup_indexI {X : Cx} : MtR X "tuple.index" (rIndexT X.K) := by
  intro pins s σ H x xs v us Q I rx rs h
  obtain ⟨p, ns, z, j, rfl, rfl, sq, hj, no, q⟩ := h
  cases rx
  obtain ⟨u, rfl, t, rfl⟩ := vals1 rs
  obtain ⟨its, r, ⟨⟨cls, dd, dt, sl⟩, ho, hc, n, hd⟩, hz⟩ := I.tuple sq
  simp only at hc hd
  subst hc
  subst hd
  have len : its.toArray.size = ns.length := by rw [List.size_toArray, ← r.length, List.length_map]
  have lj : j < its.toArray.size := by rw [len]; exact (List.getElem?_eq_some_iff.mp hj).1
  have item : ∀ (m : Nat) (lm : m < its.toArray.size), ∃ i t', ns[m]? = some i ∧ its.toArray[m] = Value.int i t' := by
    intro m lm
    have lm' : m < ns.length := by omega
    obtain ⟨u, hu, t', e⟩ := r.get (i := m) (x := .int ns[m]) (by simp [lm'])
    refine ⟨ns[m], t', List.getElem?_eq_getElem lm', ?_⟩
    rw [← e, ← (List.getElem?_eq_some_iff.mp hu).2]
    simp
  refine call_meets PySem.F.slot_tuple_index ⟨_, ho, rfl⟩ PySem.F.entry_tuple_index (PySem.F.args_tuple_index_2 _ _) (TI.tuple_indexAt p its.toArray n dd sl (.int z t) (eqU (.int z)) j lj ?_ ?_)
    ⟨ho, fun y hy => mem_eqAt (x := .int z) ⟨t, rfl⟩ rfl r (flat_ints ns) y (by simpa using hy), ⟨.int (j : Nat), H, I.tok _, ⟨_, rfl⟩, q⟩⟩
  · obtain ⟨i, t', h1, h2⟩ := item j lj
    rw [hj] at h1
    cases h1
    rw [h2]
    show (z == z) = true
    exact beq_self_eq_true z
  · intro m lm lt
    obtain ⟨i, t', h1, h2⟩ := item m lm
    rw [h2]
    show (i == z) = false
    refine beq_eq_false_iff_ne.mpr fun e => ?_
    rw [e] at h1
    exact no m lt h1
/-- the rows of an order's table -/
def OrdRows (n : Nat) (ns : List Int) (nss : List (List Int)) : Prop := nss.length = n ∧ ∀ a : Nat, a < n → (nss.getD a []).Pairwise (· < ·) ∧ ∀ x, x ∈ nss.getD a [] ↔ Behind ns a x
theorem OrdRows.one {n : Nat} {ns : List Int} {nss mss : List (List Int)} (a : OrdRows n ns nss) (b : OrdRows n ns mss) : nss = mss := by
  refine List.ext_getElem (by rw [a.1, b.1]) fun i h1 h2 => ?_
  have ia : i < n := by rw [← a.1]; exact h1
  have e1 : nss.getD i [] = nss[i] := by rw [List.getD_eq_getElem?_getD, List.getElem?_eq_getElem h1]; rfl
  have e2 : mss.getD i [] = mss[i] := by rw [List.getD_eq_getElem?_getD, List.getElem?_eq_getElem h2]; rfl
  rw [← e1, ← e2]
  exact strict_one (a.2 i ia).1 (b.2 i ia).1 fun x => ((a.2 i ia).2 x).trans ((b.2 i ia).2 x).symm
section
variable {P : Program} {w : World} {K : PySem.W.Frag} {mg : Str → Option Value} {base : Heap}
def spOrdT : Sp := fun vs H Q _ => ∃ (l : Addr) (ns : List Int) (n : Nat), vs = [.ref l] ∧ FzT H l (ns.map V.int) ∧ ns.Perm (R n) ∧ n ≤ 60 ∧
  ∀ (H' : Hp) (t : Addr) (xs : List V) (nss : List (List Int)), Same H H' → H t = none → H' t = some (.tup xs) → RowsAt H' xs nss → OrdRows n ns nss → Q (.ref t) H'
abbrev nOrdT : List Str := ["_law_order", "_law_one"]
theorem scOrdT : FnScope nOrdT ["_law_order"] (defScope sOrdTable) := ⟨rfl, rfl, rfl, by decide +kernel, rfl, by decide +kernel, by decide +kernel⟩
theorem ok_OrdT {f : Addr} {fd : FuncData} {k : Nat} (F : Fun K "_law_ordered_table" "_law_ordered_table" sOrdTable f fd) (T : Defs K mg) : FnOk P w K mg base CX0 (k + 1) f fd ["_law_order"] spOrdT := by
  refine F.ok scOrdT (fun vs H Q E h => ?_) (fun cdv A outer s H vs Q E hr h => ?_)
  · obtain ⟨l, ns, n, rfl, _⟩ := h
    rfl
  · obtain ⟨l, ns, n, rfl, hl, perm, n60, q⟩ := h
    refine ⟨_, pss_one (ps_ret (pe_callTy call_tuple_of (by rfl) T.zTuple (by decide +kernel) (pa_cons (pe_lc (own := [("_law_one", 1)]) (g := gName 1) (tt := tYes)
      (te := tCB (rTupOf K) (tCons (tCB (rSortT K) (tCons (L2.tSl (rSlF K) (tVar 0) (tPart (tOp (rI0 fun i j => .int (i + j)) (tBMF (rIndexT K) (tVar 0) (tCons (tVar 1) tNil)) (tC (.int 1)))) tNoPart) tNil)) tNil)) rfl scOrdT.nd
      (pi_range1 rfl T.zRange (pa_cons (pe_callB call_len_seq (by rfl) T.zLen PySem.boot_len (pa_cons (pv 0) pa_nil)) pa_nil))
      (blkOk_by (own := [("_law_one", 1)]) (N := nOrdT) (sc := defScope sOrdTable) (by decide +kernel)) (fun _ _ _ _ _ => pg_name (i := 1) scOrdT.nd rfl (Or.inl rfl)) (fun _ _ _ _ _ => pts_nil)
      (fun _ _ _ _ _ => pe_callTy call_tupOf (by rfl) T.zTuple (by decide +kernel) (pa_cons (pe_callB cr_sortT (by rfl) T.zSorted (by decide +kernel) (pa_cons
        (pe_slice sl_tupF (pv 0) (po_some (pe_op op_add (pe_bmF PySem.F.plainAttrs_tuple PySem.F.slot_tuple_index PySem.F.type_tuple_index mt_tup_indexI (pv 0) (pa_cons (pv 1) pa_nil)) pe_int)) po_none) pa_nil)) pa_nil))) pa_nil))), ?_⟩
    have nd : ns.Nodup := perm.nodup_iff.mpr (R_nodup n)
    have len : ns.length = n := by rw [perm.length_eq, R_len]
    refine ⟨.ref l, rfl, l, _, rfl, .inr hl.sq, _, rfl, by omega, by rw [List.length_map]; omega, fun D nD => ?_⟩
    have eN : (((ns.map V.int).length : Nat) : Int).toNat = n := by rw [List.length_map]; omega
    refine lc_range (lo := 0) (n := _) (fun i G => Same H G ∧ ∃ xs nss, G D = some (.lst xs) ∧ RowsAt G xs nss ∧ nss.length = i ∧ ∀ a : Nat, a < i → (nss.getD a []).Pairwise (· < ·) ∧ ∀ x, x ∈ nss.getD a [] ↔ Behind ns a x) ⟨same_new nD, [], [], upd_same, .nil, rfl, fun a l => by omega⟩ ?_ ?_
    · rintro i G hi ⟨sm, xs, nss, hD, rows, ln, ok⟩
      have li : i < n := by rw [eN] at hi; exact hi
      have mi : (i : Int) ∈ ns := perm.mem_iff.mpr (R_mem.mpr (by omega))
      obtain ⟨j, hj⟩ := List.mem_iff_getElem?.mp mi
      have hlG := hl.same sm
      refine ⟨rfl, .ref l, rfl, .ref l, rfl, ⟨l, _, rfl, hlG⟩, _, rfl, l, ns, 0 + (i : Int), j, rfl, rfl, hlG.sq, by rw [Int.zero_add]; exact hj, ?_, ?_⟩
      · intro m lt hm
        rw [Int.zero_add] at hm
        have := nd_ix nd hm hj
        omega
      · refine ⟨j, 1, rfl, rfl, ((j + 1 : Nat) : Int), rfl, j, l, _, rfl, rfl, rfl, hlG.sq, fun G1 u s1 hu => ?_⟩
        rw [← List.map_drop] at hu
        refine ⟨u, ns.drop (j + 1), rfl, hu, fun ks v pk sk nv => ?_⟩
        have s2 := same_new (o := .lst (ks.map V.int)) nv
        refine ⟨v, _, rfl, .inl ⟨SqL.of upd_same, fun t nt => ?_⟩⟩
        have s3 := same_new (o := .tup (ks.map V.int)) nt
        have s13 := (s1.trans s2).trans s3
        have hD3 := s13 _ _ hD
        have ndk : ks.Nodup := pk.nodup_iff.mpr (nd.sublist (List.drop_sublist _ _))
        have strict : ks.Pairwise (· < ·) := by
          have z := sk.and (List.nodup_iff_pairwise_ne.mp ndk)
          exact z.imp (fun h => by omega)
        refine ⟨_, hD3, ?_, fun b o hb => ?_, xs ++ [.ref t], nss ++ [ks], upd_same, ?_, ?_, fun a la => ?_⟩
        · have := rows.len
          exact small1000 (by omega)
        · rw [upd_ne (ne_of_none hb nD)]
          exact s13 _ _ (sm _ _ hb)
        · have tkD : Tk (upd (upd G1 v (.lst (ks.map V.int))) t (.tup (ks.map V.int))) (upd (upd (upd G1 v (.lst (ks.map V.int))) t (.tup (ks.map V.int))) D (.lst (xs ++ [.ref t]))) := fun c zs e => by
            rw [upd_ne (fun z => by rw [z, hD3] at e; cases e)]
            exact e
          exact ((rows.keep (Same.tk s13)).snoc upd_same).keep tkD
        · rw [List.length_append, ln]
          rfl
        · by_cases z : a = i
          · subst z
            have e : (nss ++ [ks]).getD a [] = ks := by
              rw [List.getD_eq_getElem?_getD, ← ln, List.getElem?_concat_length]
              rfl
            rw [e]
            refine ⟨strict, fun x => ?_⟩
            rw [pk.mem_iff, behind_drop nd hj]
          · have e : (nss ++ [ks]).getD a [] = nss.getD a [] := by
              rw [List.getD_eq_getElem?_getD, List.getD_eq_getElem?_getD, List.getElem?_append_left (by omega)]
            rw [e]
            exact ok a (by omega)
    · rintro G ⟨sm, xs, nss, hD, rows, ln, ok⟩
      rw [eN] at ln ok
      refine ⟨D, _, rfl, .inl ⟨SqL.of hD, fun t nt => ?_⟩⟩
      have s1 := same_new (o := .tup xs) nt
      exact q _ t xs nss (sm.trans s1) (sm.free nt) upd_same (rows.keep (Same.tk s1)) ⟨ln, ok⟩
abbrev nTabO : List Str := ["order", "key"]
theorem scTabO : FnScope nTabO ["order"] (defScope sTableOf) := ⟨rfl, rfl, rfl, by decide +kernel, rfl, by decide +kernel, by decide +kernel⟩
theorem ok_TabO {f : Addr} {fd : FuncData} {k : Nat} (F : Fun K "table_of_order" "table_of_order" sTableOf f fd) (T : Defs K mg) : FnOk P w K mg base CX0 (k + 1) f fd ["order"] spOrdT := by
  refine F.ok scTabO (fun vs H Q E h => ?_) (fun cdv A outer s H vs Q E hr h => ?_)
  · obtain ⟨l, ns, n, rfl, _⟩ := h
    rfl
  · obtain ⟨l, ns, n, rfl, hl, perm, n60, q⟩ := h
    refine ⟨_, pss_one (ps_ret (pe_callTy call_tuple_of (by rfl) T.zTuple (by decide +kernel) (pa_cons (pe_lc (own := [("key", 1)]) (g := gName 1) (tt := tYes)
      (te := tCB (rTupOf K) (tCons (tCB (rSortT K) (tCons (L2.tSl (rSlF K) (tVar 0) (tPart (tOp (rI0 fun i j => .int (i + j)) (tBMF (rIndexT K) (tVar 0) (tCons (tVar 1) tNil)) (tC (.int 1)))) tNoPart) tNil)) tNil)) rfl scTabO.nd
      (pi_range1 rfl T.zRange (pa_cons (pe_callB call_len_seq (by rfl) T.zLen PySem.boot_len (pa_cons (pv 0) pa_nil)) pa_nil))
      (blkOk_by (own := [("key", 1)]) (N := nTabO) (sc := defScope sTableOf) (by decide +kernel)) (fun _ _ _ _ _ => pg_name (i := 1) scTabO.nd rfl (Or.inl rfl)) (fun _ _ _ _ _ => pts_nil)
      (fun _ _ _ _ _ => pe_callTy call_tupOf (by rfl) T.zTuple (by decide +kernel) (pa_cons (pe_callB cr_sortT (by rfl) T.zSorted (by decide +kernel) (pa_cons
        (pe_slice sl_tupF (pv 0) (po_some (pe_op op_add (pe_bmF PySem.F.plainAttrs_tuple PySem.F.slot_tuple_index PySem.F.type_tuple_index mt_tup_indexI (pv 0) (pa_cons (pv 1) pa_nil)) pe_int)) po_none) pa_nil)) pa_nil))) pa_nil))), ?_⟩
    have nd : ns.Nodup := perm.nodup_iff.mpr (R_nodup n)
    have len : ns.length = n := by rw [perm.length_eq, R_len]
    refine ⟨.ref l, rfl, l, _, rfl, .inr hl.sq, _, rfl, by omega, by rw [List.length_map]; omega, fun D nD => ?_⟩
    have eN : (((ns.map V.int).length : Nat) : Int).toNat = n := by rw [List.length_map]; omega
    refine lc_range (lo := 0) (n := _) (fun i G => Same H G ∧ ∃ xs nss, G D = some (.lst xs) ∧ RowsAt G xs nss ∧ nss.length = i ∧ ∀ a : Nat, a < i → (nss.getD a []).Pairwise (· < ·) ∧ ∀ x, x ∈ nss.getD a [] ↔ Behind ns a x) ⟨same_new nD, [], [], upd_same, .nil, rfl, fun a l => by omega⟩ ?_ ?_
    · rintro i G hi ⟨sm, xs, nss, hD, rows, ln, ok⟩
      have li : i < n := by rw [eN] at hi; exact hi
      have mi : (i : Int) ∈ ns := perm.mem_iff.mpr (R_mem.mpr (by omega))
      obtain ⟨j, hj⟩ := List.mem_iff_getElem?.mp mi
      have hlG := hl.same sm
      refine ⟨rfl, .ref l, rfl, .ref l, rfl, ⟨l, _, rfl, hlG⟩, _, rfl, l, ns, 0 + (i : Int), j, rfl, rfl, hlG.sq, by rw [Int.zero_add]; exact hj, ?_, ?_⟩
      · intro m lt hm
        rw [Int.zero_add] at hm
        have := nd_ix nd hm hj
        omega
      · refine ⟨j, 1, rfl, rfl, ((j + 1 : Nat) : Int), rfl, j, l, _, rfl, rfl, rfl, hlG.sq, fun G1 u s1 hu => ?_⟩
        rw [← List.map_drop] at hu
        refine ⟨u, ns.drop (j + 1), rfl, hu, fun ks v pk sk nv => ?_⟩
        have s2 := same_new (o := .lst (ks.map V.int)) nv
        refine ⟨v, _, rfl, .inl ⟨SqL.of upd_same, fun t nt => ?_⟩⟩
        have s3 := same_new (o := .tup (ks.map V.int)) nt
        have s13 := (s1.trans s2).trans s3
        have hD3 := s13 _ _ hD
        have ndk : ks.Nodup := pk.nodup_iff.mpr (nd.sublist (List.drop_sublist _ _))
        have strict : ks.Pairwise (· < ·) := by
          have z := sk.and (List.nodup_iff_pairwise_ne.mp ndk)
          exact z.imp (fun h => by omega)
        refine ⟨_, hD3, ?_, fun b o hb => ?_, xs ++ [.ref t], nss ++ [ks], upd_same, ?_, ?_, fun a la => ?_⟩
        · have := rows.len
          exact small1000 (by omega)
        · rw [upd_ne (ne_of_none hb nD)]
          exact s13 _ _ (sm _ _ hb)
        · have tkD : Tk (upd (upd G1 v (.lst (ks.map V.int))) t (.tup (ks.map V.int))) (upd (upd (upd G1 v (.lst (ks.map V.int))) t (.tup (ks.map V.int))) D (.lst (xs ++ [.ref t]))) := fun c zs e => by
            rw [upd_ne (fun z => by rw [z, hD3] at e; cases e)]
            exact e
          exact ((rows.keep (Same.tk s13)).snoc upd_same).keep tkD
        · rw [List.length_append, ln]
          rfl
        · by_cases z : a = i
          · subst z
            have e : (nss ++ [ks]).getD a [] = ks := by
              rw [List.getD_eq_getElem?_getD, ← ln, List.getElem?_concat_length]
              rfl
            rw [e]
            refine ⟨strict, fun x => ?_⟩
            rw [pk.mem_iff, behind_drop nd hj]
          · have e : (nss ++ [ks]).getD a [] = nss.getD a [] := by
              rw [List.getD_eq_getElem?_getD, List.getD_eq_getElem?_getD, List.getElem?_append_left (by omega)]
            rw [e]
            exact ok a (by omega)
    · rintro G ⟨sm, xs, nss, hD, rows, ln, ok⟩
      rw [eN] at ln ok
      refine ⟨D, _, rfl, .inl ⟨SqL.of hD, fun t nt => ?_⟩⟩
      have s1 := same_new (o := .tup xs) nt
      exact q _ t xs nss (sm.trans s1) (sm.free nt) upd_same (rows.keep (Same.tk s1)) ⟨ln, ok⟩
end
end SL

namespace SL
open PySem PySem.Spec PyProof.Rows L2
/-- orders at these addresses -/
def OrdsAt (H : Hp) (n : Nat) (ts : List Addr) (nsl : List (List Int)) : Prop := ts.length = nsl.length ∧ ∀ (i : Nat) (t : Addr) (ns : List Int), ts[i]? = some t → nsl[i]? = some ns → FzT H t (ns.map V.int) ∧ ns.Perm (R n)
theorem OrdsAt.same {H H' : Hp} {n : Nat} {ts : List Addr} {nsl : List (List Int)} (h : OrdsAt H n ts nsl) (s : Same H H') : OrdsAt H' n ts nsl := ⟨h.1, fun i t ns a b => ⟨(h.2 i t ns a b).1.same s, (h.2 i t ns a b).2⟩⟩
/-- the tables of these orders -/
def TabsAt (H : Hp) (n : Nat) (us : List Addr) (nsl : List (List Int)) : Prop := us.length = nsl.length ∧ ∀ (i : Nat) (u : Addr) (ns : List Int), us[i]? = some u → nsl[i]? = some ns → ∃ (xs : List V) (nss : List (List Int)), H u = some (.tup xs) ∧ RowsAt H xs nss ∧ OrdRows n ns nss
theorem TabsAt.keep {H H' : Hp} {n : Nat} {us : List Addr} {nsl : List (List Int)} (h : TabsAt H n us nsl) (s : Tk H H') : TabsAt H' n us nsl := ⟨h.1, fun i u ns a b => by
  obtain ⟨xs, nss, c, d, e⟩ := h.2 i u ns a b
  exact ⟨xs, nss, s _ _ c, d.keep s, e⟩⟩
theorem behind_lt {ns : List Int} (nd : ns.Nodup) {a b : Int} {i j : Nat} (h : Behind ns a b) (ha : ns[i]? = some a) (hb : ns[j]? = some b) : i < j := by
  obtain ⟨i', j', h1, h2, lt⟩ := h
  rw [nd_ix nd ha h1, nd_ix nd hb h2]
  exact lt
abbrev nRing : List Str := ["rule", "slot", "table", "a", "b", "c"]
theorem scRing : FnScope nRing ["rule", "slot"] (defScope sRingAt) := ⟨rfl, rfl, rfl, by decide +kernel, rfl, by decide +kernel, by decide +kernel⟩
abbrev nRuleOf : List Str := ["orders", "order"]
theorem scRuleOf : FnScope nRuleOf ["orders"] (defScope sRuleOf) := ⟨rfl, rfl, rfl, by decide +kernel, rfl, by decide +kernel, by decide +kernel⟩
section
variable {P : Program} {w : World} {K : PySem.W.Frag} {mg : Str → Option Value} {base : Heap}
/-- no ring in the table of an order -/
def spRing : Sp := fun vs H Q _ => ∃ (r u : Addr) (i n : Nat) (us : List Addr) (xs : List V) (ns : List Int) (nss : List (List Int)), vs = [.ref r, .int i] ∧ H r = some (.tup (us.map V.ref)) ∧ us[i]? = some u ∧ H u = some (.tup xs) ∧ RowsAt H xs nss ∧ OrdRows n ns nss ∧ ns.Perm (R n) ∧ n ≤ 60 ∧ Q .non H
theorem ok_ring {f : Addr} {fd : FuncData} {k : Nat} (F : Fun K "ring_at" "ring_at" sRingAt f fd) (T : Defs K mg) : FnOk P w K mg base CX0 (k + 1) f fd ["rule", "slot"] spRing := by
  refine F.ok scRing (fun vs H Q E h => ?_) (fun cdv A outer s H vs Q E hr h => ?_)
  · obtain ⟨r, u, i, n, us, xs, ns, nss, rfl, _⟩ := h
    rfl
  · obtain ⟨r, u, i, n, us, xs, ns, nss, rfl, hR, hi, hu, rows, ord, perm, n60, q⟩ := h
    refine ⟨_, pss_cons (ps_set (i := 2) scRing.nd rfl (.inl rfl) (pe_ix ix_tup (pv 0) (pv 1) (fun _ _ => rfl)))
      (pss_cons (ps_for PassesOwn.never rfl (pi_range1 rfl T.zRange (pa_cons (pe_callB call_len_seq (by rfl) T.zLen PySem.boot_len (pa_cons (pv 2) pa_nil)) pa_nil)) (pg_name (i := 3) scRing.nd rfl (Or.inl rfl))
        (pss_one (ps_for PassesOwn.never rfl (pi_tup (pe_ix ix_tup (pv 2) (pv 3) (fun _ _ => rfl))) (pg_name (i := 4) scRing.nd rfl (Or.inl rfl))
          (pss_one (ps_for PassesOwn.never rfl (pi_tup (pe_ix ix_tup (pv 2) (pv 4) (fun _ _ => rfl))) (pg_name (i := 5) scRing.nd rfl (Or.inl rfl))
            (pss_one (ps_if (pt_cmpR op_in_seq (pv 3) (pe_ix ix_tup (pv 2) (pv 5) (fun _ _ => rfl)) (by rfl)) (pss_one (ps_ret (pe_tup (pa_cons (pv 3) (pa_cons (pv 4) (pa_cons (pv 5) pa_nil)))))) pss_nil)))))))
      (pss_one (ps_ret pe_non))), ?_⟩
    have lx := rows.len
    have ln := ord.1
    have nd : ns.Nodup := perm.nodup_iff.mpr (R_nodup n)
    have hui : (us.map V.ref)[i]? = some (.ref u) := by rw [List.getElem?_map, hi]; rfl
    have inN : ∀ {a : Nat} {x : Int}, a < n → x ∈ nss.getD a [] → ∃ b : Nat, x = b ∧ b < n ∧ Behind ns a b := by
      intro a x ha hx
      have z := ((ord.2 a ha).2 x).mp hx
      obtain ⟨j, m, _, h2, _⟩ := z
      have := R_mem.mp (perm.mem_iff.mp (List.mem_of_getElem? h2))
      exact ⟨x.toNat, by omega, by omega, by rw [show ((x.toNat : Nat) : Int) = x by omega]; exact ((ord.2 a ha).2 x).mp hx⟩
    have place : ∀ a : Nat, a < n → ∃ j : Nat, ns[j]? = some (a : Int) := fun a ha => List.mem_iff_getElem?.mp (perm.mem_iff.mpr (R_mem.mpr (by omega)))
    refine ⟨.ref r, rfl, .int i, rfl, r, _, _, .ref u, rfl, rfl, SqT.of hR, atI_nat hui, ?_⟩
    refine ⟨.ref u, rfl, u, xs, rfl, .inr (SqT.of hu), _, rfl, by omega, by omega, for_range (lo := 0) (n := _) (fun _ σ G => G = H ∧ ∃ y3 y4 y5, σ = [some (.ref r), some (.int i), some (.ref u), y3, y4, y5]) ⟨rfl, _, _, _, rfl⟩ ?_ ?_⟩
    · rintro a σ G ha ⟨rfl, y3, y4, y5, rfl⟩
      have la : a < n := by omega
      obtain ⟨ra, hra, rowa⟩ := rows.get a (by omega)
      have e0 : ((0 : Int) + (a : Int)) = (a : Int) := Int.zero_add _
      rw [e0]
      refine ⟨.ref u, rfl, .int a, rfl, u, xs, _, .ref ra, rfl, rfl, SqT.of hu, atI_nat hra, ra, rfl, ⟨_, SqT.of rowa⟩, for_tup (K := K) (a := ra) (xs := (nss.getD a []).map V.int) (fun _ σ G' => G' = G ∧ ∃ y4 y5, σ = [some (.ref r), some (.int i), some (.ref u), some (.int a), y4, y5]) ⟨rfl, _, _, rfl⟩ (fun _ _ G' _ h => by rw [h.1]; exact SqT.of rowa) ?_ ?_⟩
      · rintro jb xb σ G' hxb ⟨rfl, y4, y5, rfl⟩
        rw [List.getElem?_map] at hxb
        obtain ⟨b', hb', rfl⟩ := Option.map_eq_some_iff.mp hxb
        obtain ⟨b, rfl, lb, bab⟩ := inN la (List.mem_of_getElem? hb')
        obtain ⟨rb, hrb, rowb⟩ := rows.get b (by omega)
        refine ⟨.ref u, rfl, .int b, rfl, u, xs, _, .ref rb, rfl, rfl, SqT.of hu, atI_nat hrb, rb, rfl, ⟨_, SqT.of rowb⟩, for_tup (K := K) (a := rb) (xs := (nss.getD b []).map V.int) (fun _ σ G2 => G2 = G' ∧ ∃ y5, σ = [some (.ref r), some (.int i), some (.ref u), some (.int a), some (.int b), y5]) ⟨rfl, _, rfl⟩ (fun _ _ G2 _ h => by rw [h.1]; exact SqT.of rowb) ?_ ?_⟩
        · rintro jc xc σ G2 hxc ⟨rfl, y5, rfl⟩
          rw [List.getElem?_map] at hxc
          obtain ⟨c', hc', rfl⟩ := Option.map_eq_some_iff.mp hxc
          obtain ⟨c, rfl, lc, bbc⟩ := inN lb (List.mem_of_getElem? hc')
          obtain ⟨rc, hrc, rowc⟩ := rows.get c (by omega)
          refine ⟨.int a, rfl, .ref u, rfl, .int c, rfl, u, xs, _, .ref rc, rfl, rfl, SqT.of hu, atI_nat hrc, rc, _, rfl, .inr (SqT.of rowc), rfl, flat_ints _, _, rfl, ite2 (fun e2 => ?_) (fun e2 => ?_)⟩
          · exfalso
            rw [in_ints] at e2
            have mem : (a : Int) ∈ nss.getD c [] := of_decide_eq_true e2
            have bca := ((ord.2 c lc).2 _).mp mem
            obtain ⟨pa, ha'⟩ := place a la
            obtain ⟨pb, hb''⟩ := place b lb
            obtain ⟨pc, hc''⟩ := place c lc
            have l1 := behind_lt nd bab ha' hb''
            have l2 := behind_lt nd bbc hb'' hc''
            have l3 := behind_lt nd bca hc'' ha'
            omega
          · exact ⟨rfl, _, rfl⟩
        · rintro σ G2 ⟨rfl, y5, rfl⟩
          exact ⟨rfl, _, _, rfl⟩
      · rintro σ G' ⟨rfl, y4, y5, rfl⟩
        exact ⟨rfl, _, _, _, rfl⟩
    · rintro σ G ⟨rfl, y3, y4, y5, rfl⟩
      exact q
end
end SL

namespace SL
open PySem PySem.Spec PyProof.Rows L2 LamX PySem.W
/-- how many a key of an order beats -/
theorem row_len {n : Nat} {ns : List Int} {nss : List (List Int)} (ord : OrdRows n ns nss) (perm : ns.Perm (R n)) {a j : Nat} (ha : a < n) (hj : ns[j]? = some (a : Int)) : (nss.getD a []).length = n - (j + 1) := by
  have nd : ns.Nodup := perm.nodup_iff.mpr (R_nodup n)
  have len : ns.length = n := by rw [perm.length_eq, R_len]
  have p : (nss.getD a []).Perm (ns.drop (j + 1)) := by
    refine (List.perm_ext_iff_of_nodup (strict_nodup (ord.2 a ha).1) (nd.sublist (List.drop_sublist _ _))).mpr fun x => ?_
    rw [(ord.2 a ha).2 x, behind_drop nd hj]
  rw [p.length_eq, List.length_drop, len]
theorem order_again {n : Nat} {ns : List Int} {nss : List (List Int)} (ord : OrdRows n ns nss) (perm : ns.Perm (R n)) :
    ((List.range n).mergeSort (dataLe false fun i => .int (-((nss.getD i []).length : Int)))).map (fun i : Nat => (i : Int)) = ns := by
  have nd : ns.Nodup := perm.nodup_iff.mpr (R_nodup n)
  have len : ns.length = n := by rw [perm.length_eq, R_len]
  rw [dataLe_int]
  generalize hL : (List.range n).mergeSort (fun a b => decide (-((nss.getD a []).length : Int) ≤ -((nss.getD b []).length : Int))) = L
  have pL : L.Perm (List.range n) := by
    rw [← hL]
    exact List.mergeSort_perm _ _
  have sL : L.Pairwise (fun a b => -((nss.getD a []).length : Int) ≤ -((nss.getD b []).length : Int)) := by
    rw [← hL]
    have z := List.pairwise_mergeSort (le := fun a b : Nat => decide (-((nss.getD a []).length : Int) ≤ -((nss.getD b []).length : Int))) (fun a b c h1 h2 => by
      simp only [decide_eq_true_eq] at h1 h2 ⊢
      omega) (fun a b => by
      simp only [Bool.or_eq_true, decide_eq_true_eq]
      omega) (List.range n)
    exact z.imp (fun h => of_decide_eq_true h)
  have g_at : ∀ (a j : Nat), a < n → ns[j]? = some (a : Int) → -((nss.getD a []).length : Int) = (j : Int) + 1 - n := fun a j ha hj => by
    have l := row_len ord perm ha hj
    have lj := (List.getElem?_eq_some_iff.mp hj).1
    omega
  have back : ∀ (j : Nat) (x : Int), ns[j]? = some x → ∃ a : Nat, x = a ∧ a < n := fun j x hx => by
    have z := R_mem.mp (perm.mem_iff.mp (List.mem_of_getElem? hx))
    exact ⟨x.toNat, by omega, by omega⟩
  have sorted1 : (L.map fun a => -((nss.getD a []).length : Int)).Pairwise (· ≤ ·) := List.pairwise_map.mpr sL
  have keys : (ns.map fun x => -((nss.getD x.toNat []).length : Int)) = (List.range n).map fun j : Nat => (j : Int) + 1 - n := by
    refine List.ext_getElem (by rw [List.length_map, List.length_map, List.length_range, len]) fun j h1 h2 => ?_
    rw [List.getElem_map, List.getElem_map, List.getElem_range]
    have lj : j < ns.length := by rw [List.length_map] at h1; exact h1
    obtain ⟨a, ea, la⟩ := back j ns[j] (List.getElem?_eq_getElem lj)
    rw [ea]
    exact g_at a j la (by rw [List.getElem?_eq_getElem lj, ea])
  have sorted2 : (ns.map fun x => -((nss.getD x.toNat []).length : Int)).Pairwise (· ≤ ·) := by
    rw [keys]
    refine List.pairwise_map.mpr ?_
    exact (List.pairwise_lt_range (n := n)).imp (fun h => by omega)
  have pm : (L.map fun a => -((nss.getD a []).length : Int)).Perm (ns.map fun x => -((nss.getD x.toNat []).length : Int)) := by
    have p1 : (L.map fun i : Nat => (i : Int)).Perm ns := (pL.map _).trans perm.symm
    have p2 := p1.map (fun x => -((nss.getD x.toNat []).length : Int))
    rw [List.map_map] at p2
    exact p2
  have same := sorted_one pm sorted1 sorted2
  have lenL : L.length = n := by rw [pL.length_eq, List.length_range]
  refine List.ext_getElem (by rw [List.length_map, lenL, len]) fun i h1 h2 => ?_
  rw [List.getElem_map]
  have li : i < L.length := by rw [List.length_map] at h1; exact h1
  have ma : L[i] < n := List.mem_range.mp (pL.mem_iff.mp (List.getElem_mem li))
  obtain ⟨j, hj⟩ := List.mem_iff_getElem?.mp (perm.mem_iff.mpr (R_mem.mpr (show 0 ≤ (L[i] : Int) ∧ (L[i] : Int) < n by omega)))
  have k1 := g_at L[i] j ma hj
  have k2 : (L.map fun a => -((nss.getD a []).length : Int))[i]? = ((List.range n).map fun j : Nat => (j : Int) + 1 - n)[i]? := by rw [same, keys]
  rw [List.getElem?_map, List.getElem?_map, List.getElem?_eq_getElem li, List.getElem?_range (by omega)] at k2
  have k3 : -((nss.getD L[i] []).length : Int) = (i : Int) + 1 - n := Option.some.inj k2
  have ej : j = i := by omega
  subst ej
  rw [List.getElem?_eq_getElem h2] at hj
  exact (Option.some.inj hj).symm
end SL

namespace SL
open PySem PySem.Spec PyProof.Rows L2 LamX PySem.W
abbrev nOrder : List Str := ["rule", "slot", "table"]
theorem scOrder : FnScope nOrder ["rule", "slot"] (defScope sOrderAt) := ⟨rfl, rfl, rfl, by decide +kernel, rfl, by decide +kernel, by decide +kernel⟩
abbrev nIsO : List Str := ["rule", "slot"]
theorem scIsO : FnScope nIsO ["rule"] (defScope sOrdered) := ⟨rfl, rfl, rfl, by decide +kernel, rfl, by decide +kernel, by decide +kernel⟩
/-- len(..), by a name -/
def rLenS (K : PySem.W.Frag) : List V → Hp → VK → Prop := fun xs H Q => ∃ p ys, xs = [.ref p] ∧ (SqL K H p ys ∨ SqT K H p ys) ∧ Q (.int ys.length) H
theorem call_lenS {X : Cx} : CallR X (.builtin "len") (rLenS X.K) := call_len_seq
/-- the name of the lambda -/
abbrev qLam : Str := (("order_at" : Str) ++ ".<locals>.") ++ "<lambda>"
section
variable {P : Program} {w : World} {K : PySem.W.Frag} {mg : Str → Option Value} {base : Heap}
/-- a def by its body, its code object known -/
theorem fn_code {x qual : Str} {st : Stmt} {f : Addr} {fd : FuncData} {N ps : List Str} {k : Nat} {sp : Sp} (F : Fun K x qual st f fd) (sc : FnScope N ps (defScope st)) (size : ∀ vs H Q E, sp vs H Q E → vs.length = ps.length)
    (body : ∀ (A : Around) (outer : List Env) (s : Shared) (H : Hp) (vs : List V) (Q : VK) (E : XK), Room k (A.deeper (envOfC qual (defScope st) s.heap.objs.size f fd.code)) → sp vs H Q E →
      ∃ t, PSs (cxOf CX0 P w K mg base N qual (defScope st) f fd.code A outer s H E).nox (defBody st) t ∧ t { nx := fun _ H' => Q .non H', rt := Q } (start N vs) H) : FnOk P w K mg base CX0 (k + 1) f fd ps sp := by
  obtain ⟨oc, od, kV, doc, pm, an, cdv, ct, osl, rfl, lk, hcd⟩ := F.ex
  refine fn_of lk hcd sc size fun A outer s H vs Q E room prom => ?_
  obtain ⟨t, der, reading⟩ := body A outer s H vs Q E room prom
  exact ⟨t, der.nox, reading⟩
def spOrderAt (Pt : Addr) : Sp := fun vs H Q _ => ∃ (r u : Addr) (i n : Nat) (us : List Addr) (xs : List V) (ns : List Int) (nss : List (List Int)), vs = [.ref r, .int i] ∧ H r = some (.tup (us.map V.ref)) ∧ us[i]? = some u ∧ H u = some (.tup xs) ∧ RowsAt H xs nss ∧ OrdRows n ns nss ∧ ns.Perm (R n) ∧ n ≤ 60 ∧
  Tabs [(Pt, qLam)] H ∧ ∀ (H' : Hp) (t : Addr), ExtN H H' → Tabs [(Pt, qLam)] H' → H' t = some (.tup (ns.map V.int)) → Q (.ref t) H'
theorem ok_orderAt {f c Pt : Addr} {fd : FuncData} {k : Nat} (F : Fun K "order_at" "order_at" sOrderAt f fd) (code : fd.code = .ref c) (TB : TabB base mg c Pt) (T : Defs K mg) : FnOk P w K mg base CX0 (k + 4) f fd ["rule", "slot"] (spOrderAt Pt) := by
  obtain ⟨fR, fdR, FR, bR, gR⟩ := T.ringAt
  have GR : FnOk P w K mg base CX0 (k + 1) fR fdR ["rule", "slot"] spRing := ok_ring FR T
  refine fn_code F scOrder (fun vs H Q E h => ?_) (fun A outer s H vs Q E hr h => ?_)
  · obtain ⟨r, u, i, n, us, xs, ns, nss, rfl, _⟩ := h
    rfl
  · obtain ⟨r, u, i, n, us, xs, ns, nss, rfl, hR, hi, hu, rows, ord, perm, n60, tabs, q⟩ := h
    refine ⟨_, pss_cons (ps_if (pt_cmpR op_notN (pe_call GR (hr.mono (by omega)) (by rfl) gR FR.kp bR .nil pass0 (pa_cons (pv 0) (pa_cons (pv 1) pa_nil))) pe_non (nomark _)) (pss_one (ps_ret pe_non)) pss_nil)
      (pss_cons (ps_set (i := 2) scOrder.nd rfl (.inr rfl) (pe_ix ix_tup (pv 0) (pv 1) (fun _ _ => rfl)))
      (pss_one (ps_ret (pe_callTy call_tuple_of (by rfl) T.zTuple (by decide +kernel) (pa_cons
        (pe_sortKey (T := [(Pt, qLam)]) (k := 0) (x := "key") (tb := tUn (rU fun i => .int (-i)) (tCB (rLenS K) (tCons (tOp (rIxT K) (tVar 2) (tVar 3)) tNil))) rfl (by rfl) T.zSorted (by rfl) T.zRange
          (pe_callB call_len_seq (by rfl) T.zLen PySem.boot_len (pa_cons (pv 2) pa_nil)) TB code (List.mem_singleton.mpr rfl) (fun p hp _ => by rw [List.mem_singleton.mp hp]; rfl) (hr.mono (by omega)) (lamP_by (by show lamPB (defScope sOrderAt) _ _ = true; decide +kernel)) (by show ("key" : Str) ∉ nOrder; decide +kernel) rfl (fun _ _ _ _ _ _ => rfl)
          (fun A s H f c' _ => pe_un un_neg (pe_callB call_lenS (by rfl) T.zLen PySem.boot_len (pa_cons (pe_ix ix_tup (pv 2) (pv 3) (fun _ _ => rfl)) pa_nil)))) pa_nil))))), ?_⟩
    have lx := rows.len
    have ln := ord.1
    have hui : (us.map V.ref)[i]? = some (.ref u) := by rw [List.getElem?_map, hi]; rfl
    refine ⟨.ref r, rfl, .int i, rfl, r, u, i, n, us, xs, ns, nss, rfl, hR, hi, hu, rows, ord, perm, n60, ?_⟩
    refine ⟨rfl, _, rfl, ite2 (fun e => ?_) (fun _ => ?_)⟩
    · exact absurd e (by decide)
    refine ⟨.ref r, rfl, .int i, rfl, r, _, _, .ref u, rfl, rfl, SqT.of hR, atI_nat hui, ?_⟩
    refine ⟨.ref u, rfl, u, xs, rfl, .inr (SqT.of hu), xs.length, rfl, by omega, tabs, fun H2 ext tabs2 => ?_⟩
    have tk2 : Tk H H2 := fun b ys e => ext _ _ e (fun ps z => by cases z)
    refine ⟨fun j => .int (-((nss.getD j []).length : Int)), fun d hd d' hd' => ?_, Or.inr fun d hd => ?_, fun j => by simp [PyData.depth], fun j H3 lj sm => ?_, fun H3 p sm np => ?_⟩
    · obtain ⟨a, _, rfl⟩ := List.mem_map.mp hd
      obtain ⟨b, _, rfl⟩ := List.mem_map.mp hd'
      rfl
    · obtain ⟨a, _, rfl⟩ := List.mem_map.mp hd
      exact ⟨fun z => (by cases z), fun ys z => (by cases z)⟩
    · obtain ⟨rj, hrj, rowj⟩ := rows.get j (by omega)
      refine ⟨.ref u, rfl, .int j, rfl, u, xs, _, .ref rj, rfl, rfl, SqT.of (sm _ _ (tk2 _ _ hu)), atI_nat hrj, rj, _, rfl, .inr (SqT.of (sm _ _ (tk2 _ _ rowj))), _, rfl, Same.refl H3, Or.inl ⟨_, rfl, ?_⟩⟩
      rw [List.length_map]
    · refine ⟨p, _, rfl, .inl ⟨SqL.of upd_same, fun t nt => ?_⟩⟩
      have s1 := same_new (o := .lst (((List.range xs.length).mergeSort (dataLe false fun j => .int (-((nss.getD j []).length : Int)))).map fun i : Nat => V.int (i : Int))) np
      have s2 := same_new (o := .tup (((List.range xs.length).mergeSort (dataLe false fun j => .int (-((nss.getD j []).length : Int)))).map fun i : Nat => V.int (i : Int))) nt
      have s3 := (sm.trans s1).trans s2
      refine q _ t (ext.trans (ExtN.of s3)) (tabs2.ext s3) ?_
      rw [upd_same]
      have e := order_again ord perm
      rw [← e, List.map_map, show xs.length = n by omega]
      rfl
end
end SL

namespace SL
open PySem PySem.Spec PyProof.Rows L2 LamX PySem.W
section
variable {P : Program} {w : World} {K : PySem.W.Frag} {mg : Str → Option Value} {base : Heap}
def spRuleOf : Sp := fun vs H Q _ => ∃ (l : Addr) (n : Nat) (ts : List Addr) (nsl : List (List Int)), vs = [.ref l] ∧ H l = some (.tup (ts.map V.ref)) ∧ OrdsAt H n ts nsl ∧ n ≤ 60 ∧ ts.length ≤ 100 ∧
  ∀ (H' : Hp) (r : Addr) (us : List Addr), Same H H' → H' r = some (.tup (us.map V.ref)) → TabsAt H' n us nsl → Q (.ref r) H'
/-- tables one by one, as far as they are made -/
theorem TabsAt.snoc {H : Hp} {n i : Nat} {us : List Addr} {nsl : List (List Int)} {u : Addr} {ns : List Int} {xs : List V} {nss : List (List Int)} (h : TabsAt H n us (nsl.take i)) (len : us.length = i) (hn : nsl[i]? = some ns) (hu : H u = some (.tup xs)) (rows : RowsAt H xs nss) (ord : OrdRows n ns nss) :
    TabsAt H n (us ++ [u]) (nsl.take (i + 1)) := by
  have e : nsl.take (i + 1) = nsl.take i ++ [ns] := by rw [List.take_add_one, hn]; rfl
  have l2 := h.1
  refine ⟨by rw [e, List.length_append, List.length_append, l2]; rfl, fun j v ms hv hm => ?_⟩
  rw [e] at hm
  rcases Nat.lt_or_ge j us.length with lt | ge
  · rw [List.getElem?_append_left lt] at hv
    rw [List.getElem?_append_left (by omega)] at hm
    exact h.2 j v ms hv hm
  · have ej : j = us.length := by
      have := (List.getElem?_eq_some_iff.mp hv).1
      rw [List.length_append, List.length_singleton] at this
      omega
    subst ej
    rw [List.getElem?_append_right (Nat.le_refl _), Nat.sub_self] at hv
    rw [List.getElem?_append_right (by omega), show us.length - (nsl.take i).length = 0 by omega] at hm
    cases hv
    cases hm
    exact ⟨xs, nss, hu, rows, ord⟩
theorem ok_ruleOf {f : Addr} {fd : FuncData} {k : Nat} (F : Fun K "rule_of_orders" "rule_of_orders" sRuleOf f fd) (T : Defs K mg) : FnOk P w K mg base CX0 (k + 2) f fd ["orders"] spRuleOf := by
  obtain ⟨fO, fdO, FO, bO, gO⟩ := T.tableOf
  have GO : FnOk P w K mg base CX0 (k + 1) fO fdO ["order"] spOrdT := ok_TabO FO T
  refine F.ok scRuleOf (fun vs H Q E h => ?_) (fun cdv A outer s H vs Q E hr h => ?_)
  · obtain ⟨l, n, ts, nsl, rfl, _⟩ := h
    rfl
  · obtain ⟨l, n, ts, nsl, rfl, hl, ords, n60, few, q⟩ := h
    refine ⟨_, pss_one (ps_ret (pe_callTy call_tuple_of (by rfl) T.zTuple (by decide +kernel) (pa_cons (pe_lc (own := [("order", 1)]) (g := gName 1) (tt := tYes) rfl scRuleOf.nd (pi_tup (pv 0))
      (blkOk_by (own := [("order", 1)]) (N := nRuleOf) (sc := defScope sRuleOf) (by decide +kernel)) (fun _ _ _ _ _ => pg_name (i := 1) scRuleOf.nd rfl (Or.inl rfl)) (fun _ _ _ _ _ => pts_nil)
      (fun _ _ _ _ _ => pe_call GO hr (by rfl) gO FO.kp bO .nil pass0 (pa_cons (pv 1) pa_nil))) pa_nil))), ?_⟩
    refine ⟨.ref l, rfl, l, rfl, ⟨_, SqT.of hl⟩, fun D nD => ?_⟩
    have lt_ := ords.1
    refine lc_tup (K := K) (a := l) (xs := ts.map V.ref) (fun i G => Same H G ∧ i ≤ ts.length ∧ ∃ us : List Addr, G D = some (.lst (us.map V.ref)) ∧ us.length = i ∧ TabsAt G n us (nsl.take i)) ⟨same_new nD, Nat.zero_le _, [], upd_same, rfl, by simp, fun j u ns e => by simp at e⟩ (fun i G _ h => SqT.of (h.1 _ _ hl)) ?_ ?_
    · rintro i x G hx ⟨sm, _, us, hD, lu, tabs⟩
      rw [List.getElem?_map] at hx
      obtain ⟨t, ht, rfl⟩ := Option.map_eq_some_iff.mp hx
      have li : i < ts.length := (List.getElem?_eq_some_iff.mp ht).1
      have hn : nsl[i]? = some (nsl[i]'(by omega)) := List.getElem?_eq_getElem (by omega)
      obtain ⟨fz, perm⟩ := (ords.same sm).2 i t _ ht hn
      refine ⟨rfl, .ref t, rfl, t, _, n, rfl, fz, perm, n60, fun G1 u xs nss s1 nu hu rows ord => ?_⟩
      have hD1 := s1 _ _ hD
      have tkD : Tk G1 (upd G1 D (.lst (us.map V.ref ++ [.ref u]))) := fun c zs e => by
        rw [upd_ne (fun z => by rw [z, hD1] at e; cases e)]
        exact e
      refine ⟨_, hD1, ?_, fun b o hb => ?_, by omega, us ++ [u], ?_, ?_, ?_⟩
      · rw [List.length_map]
        exact small1000 (by omega)
      · rw [upd_ne (ne_of_none hb nD)]
        exact s1 _ _ (sm _ _ hb)
      · rw [upd_same, List.map_append]
        rfl
      · rw [List.length_append, lu]
        rfl
      · exact (((tabs.keep (Same.tk s1)).snoc lu hn hu rows ord)).keep tkD
    · rintro G ⟨sm, _, us, hD, lu, tabs⟩
      refine ⟨D, _, rfl, .inl ⟨SqL.of hD, fun t nt => ?_⟩⟩
      have s1 := same_new (o := .tup (us.map V.ref)) nt
      rw [List.length_map, lt_, List.take_length] at tabs
      exact q _ t us (sm.trans s1) upd_same (tabs.keep (Same.tk s1))
def spIsO : Sp := fun vs H Q _ => ∃ (r : Addr) (n : Nat) (us : List Addr) (nsl : List (List Int)), vs = [.ref r] ∧ H r = some (.tup (us.map V.ref)) ∧ TabsAt H n us nsl ∧ (∀ ns ∈ nsl, ns.Perm (R n)) ∧ n ≤ 60 ∧ us.length ≤ 100 ∧ ∀ H' : Hp, Same H H' → Q (.bl true) H'
theorem ok_isO {f : Addr} {fd : FuncData} {k : Nat} (F : Fun K "is_ordered" "is_ordered" sOrdered f fd) (T : Defs K mg) : FnOk P w K mg base CX0 (k + 2) f fd ["rule"] spIsO := by
  obtain ⟨fR, fdR, FR, bR, gR⟩ := T.ringAt
  have GR : FnOk P w K mg base CX0 (k + 1) fR fdR ["rule", "slot"] spRing := ok_ring FR T
  refine F.ok scIsO (fun vs H Q E h => ?_) (fun cdv A outer s H vs Q E hr h => ?_)
  · obtain ⟨r, n, us, nsl, rfl, _⟩ := h
    rfl
  · obtain ⟨r, n, us, nsl, rfl, hR, tabs, perms, n60, few, q⟩ := h
    refine ⟨_, pss_one (ps_ret (pe_callB (cr_all rfl) (by rfl) T.zAll (by decide +kernel) (pa_cons (pe_lc (own := [("slot", 1)]) (g := gName 1) (tt := tYes) rfl scIsO.nd (pi_range1 rfl T.zRange (pa_cons (pe_callB call_len_seq (by rfl) T.zLen PySem.boot_len (pa_cons (pv 0) pa_nil)) pa_nil))
      (blkOk_by (own := [("slot", 1)]) (N := nIsO) (sc := defScope sOrdered) (by decide +kernel)) (fun _ _ _ _ _ => pg_name (i := 1) scIsO.nd rfl (Or.inl rfl)) (fun _ _ _ _ _ => pts_nil)
      (fun _ _ _ _ _ => pe_cmpR op_isN (pe_call GR hr (by rfl) gR FR.kp bR .nil pass0 (pa_cons (pv 0) (pa_cons (pv 1) pa_nil))) pe_non (nomark _))) pa_nil))), ?_⟩
    have lt_ := tabs.1
    refine ⟨.ref r, rfl, r, _, rfl, .inr (SqT.of hR), _, rfl, by omega, by rw [List.length_map]; omega, fun D nD => ?_⟩
    refine lc_range (lo := 0) (n := _) (fun i G => Same H G ∧ G D = some (.lst ((List.replicate i true).map V.bl))) ⟨same_new nD, upd_same⟩ ?_ ?_
    · rintro i G hi ⟨sm, hD⟩
      have li : i < us.length := by
        rw [List.length_map] at hi
        omega
      have hu : us[i]? = some us[i] := List.getElem?_eq_getElem li
      have hn : nsl[i]? = some (nsl[i]'(by omega)) := List.getElem?_eq_getElem (by omega)
      obtain ⟨xs, nss, h1, h2, h3⟩ := (tabs.keep (Same.tk sm)).2 i _ _ hu hn
      refine ⟨rfl, .ref r, rfl, _, rfl, r, us[i], i, n, us, xs, _, nss, by rw [Int.zero_add]; rfl, sm _ _ hR, hu, h1, h2, h3, perms _ (List.getElem_mem _), n60, ?_⟩
      refine ⟨rfl, ?_⟩
      refine ⟨_, hD, ?_, fun b o hb => ?_, ?_⟩
      · rw [List.length_map, List.length_replicate]
        exact small1000 (by omega)
      · rw [upd_ne (ne_of_none hb nD)]
        exact sm _ _ hb
      · rw [upd_same, List.replicate_succ', List.map_append]
        rfl
    · rintro G ⟨sm, hD⟩
      refine ⟨D, _, rfl, SqL.of hD, ?_⟩
      rw [show (List.replicate _ true).all id = true by simp]
      exact q G sm
end
end SL

namespace SL
open PySem PySem.Spec PyProof.Rows L2 LamX PySem.W
def tabD (nss : List (List Int)) : PyData := .tuple (nss.map tupI)
/-- the tables that belong to orders -/
def Belong (n : Nat) : List (List Int) → List (List (List Int)) → Prop
  | [], [] => True
  | ns :: nsl, nss :: l => OrdRows n ns nss ∧ Belong n nsl l
  | _, _ => False
theorem Belong.one {n : Nat} : ∀ {nsl : List (List Int)} {a b : List (List (List Int))}, Belong n nsl a → Belong n nsl b → a = b
  | [], [], [], _, _ => rfl
  | [], [], _ :: _, _, h => h.elim
  | [], _ :: _, _, h, _ => h.elim
  | _ :: _, [], _, h, _ => h.elim
  | _ :: _, _ :: _, [], _, h => h.elim
  | ns :: nsl, x :: a, y :: b, h1, h2 => by rw [h1.1.one h2.1, Belong.one h1.2 h2.2]
theorem TabsAt.data {p : Addr} {H : Hp} {n : Nat} : ∀ {us : List Addr} {nsl : List (List Int)}, TabsAt H n us nsl → ∃ l : List (List (List Int)), Belong n nsl l ∧ DtAll p H (us.map V.ref) (l.map tabD)
  | [], [], _ => ⟨[], trivial, .nil⟩
  | [], _ :: _, h => by cases h.1
  | _ :: _, [], h => by cases h.1
  | u :: us, ns :: nsl, h => by
    obtain ⟨xs, nss, h1, h2, h3⟩ := h.2 0 u ns rfl rfl
    obtain ⟨l, b, d⟩ := TabsAt.data (p := p) (us := us) (nsl := nsl) ⟨by simpa using h.1, fun i v ms a b => h.2 (i + 1) v ms a b⟩
    exact ⟨nss :: l, ⟨h3, b⟩, .cons (.tup h1 h2.dt) d⟩
theorem Belong.len {n : Nat} : ∀ {nsl : List (List Int)} {l : List (List (List Int))}, Belong n nsl l → l.length = nsl.length
  | [], [], _ => rfl
  | [], _ :: _, h => h.elim
  | _ :: _, [], h => h.elim
  | _ :: _, _ :: _, h => by rw [List.length_cons, List.length_cons, h.2.len]
theorem Belong.tb {n : Nat} : ∀ {nsl : List (List Int)} {l : List (List (List Int))}, Belong n nsl l → (∀ ns ∈ nsl, ns.Perm (R n)) → ∀ nss ∈ l, Tb n nss
  | [], [], _, _, _, h => by cases h
  | [], _ :: _, h, _, _, _ => h.elim
  | _ :: _, [], h, _, _, _ => h.elim
  | ns :: nsl, x :: l, h, p, nss, m => by
    rcases List.mem_cons.mp m with z | z
    · rw [z]
      exact order_table (p ns List.mem_cons_self) h.1.1 h.1.2
    · exact h.2.tb (fun a b => p a (List.mem_cons_of_mem _ b)) nss z
theorem el_ints {m : Nat} {ns : List Int} (h : ∀ x ∈ ns, 0 ≤ x ∧ x ≤ 100) (l : ns.length ≤ 16) : El 1 400 (tupI ns) := by
  refine (el_tuple (k := 0) (c := 20) (m := 16) (fun d hd => ?_) (by rw [List.length_map]; exact l) (by omega)).mono (by omega) (by omega)
  obtain ⟨x, hx, rfl⟩ := List.mem_map.mp hd
  have := h x hx
  exact el_int (by omega) (by omega)
theorem Row.len16 {n : Nat} {ns : List Int} (h : Row n ns) : ns.length ≤ n := by
  have z := len_of_sub ns (R n) (strict_nodup h.1) h.2
  rw [R_len] at z
  exact z
theorem el_table {n : Nat} {nss : List (List Int)} (t : Tb n nss) (n16 : n ≤ 16) : El 2 8000 (tabD nss) := by
  refine (el_tuple (k := 1) (c := 400) (m := 16) (fun d hd => ?_) (by rw [List.length_map, t.1]; exact n16) (by omega)).mono (by omega) (by omega)
  obtain ⟨ns, hn, rfl⟩ := List.mem_map.mp hd
  have row := t.2.1 ns hn
  exact el_ints (m := 0) (fun x hx => by
    have := R_mem.mp (row.2 x hx)
    omega) (Nat.le_trans row.len16 n16)
theorem el_rule {n : Nat} {l : List (List (List Int))} (t : ∀ nss ∈ l, Tb n nss) (n16 : n ≤ 16) (l16 : l.length ≤ 16) : El 20 10000000 (.tuple (l.map tabD)) := by
  refine (el_tuple (k := 2) (c := 8000) (m := 16) (fun d hd => ?_) (by rw [List.length_map]; exact l16) (by omega)).mono (by omega) (by omega)
  obtain ⟨nss, hn, rfl⟩ := List.mem_map.mp hd
  exact el_table (t nss hn) n16
theorem el_orders {n : Nat} {nsl : List (List Int)} (p : ∀ ns ∈ nsl, ns.Perm (R n)) (n16 : n ≤ 16) (l16 : nsl.length ≤ 16) : El 20 10000000 (.tuple (nsl.map tupI)) := by
  refine (el_tuple (k := 1) (c := 400) (m := 16) (fun d hd => ?_) (by rw [List.length_map]; exact l16) (by omega)).mono (by omega) (by omega)
  obtain ⟨ns, hn, rfl⟩ := List.mem_map.mp hd
  have perm := p ns hn
  exact el_ints (m := 0) (fun x hx => by
    have := R_mem.mp (perm.mem_iff.mp hx)
    omega) (by rw [perm.length_eq, R_len]; exact n16)
theorem isR_of {n : Nat} {l : List (List (List Int))} (t : ∀ nss ∈ l, Tb n nss) (n1 : 0 < n) (n16 : n ≤ 16) (l1 : 0 < l.length) (l16 : l.length ≤ 16) : IsR (.tuple (l.map tabD)) := by
  have h0 : l[0]? = some l[0] := List.getElem?_eq_getElem l1
  have t0 := t _ (List.getElem_mem l1)
  refine ⟨_, l[0].map tupI, rfl, by rw [List.length_map]; exact l16, by rw [List.getElem?_map, h0]; rfl, ?_, ?_, fun x hx => ?_⟩
  · rw [List.length_map, t0.1]; omega
  · rw [List.length_map, t0.1]; exact n16
  · obtain ⟨nss, hn, rfl⟩ := List.mem_map.mp hx
    rw [List.length_map, t0.1]
    exact ⟨nss, rfl, t nss hn⟩
/-- orders, as they are shown -/
theorem OrdsAt.dp {K : PySem.W.Frag} {H : Hp} {n : Nat} : ∀ {ts : List Addr} {nsl : List (List Int)}, OrdsAt H n ts nsl → DpAll K H (ts.map V.ref) (nsl.map tupI)
  | [], [], _ => .nil
  | [], _ :: _, h => by cases h.1
  | _ :: _, [], h => by cases h.1
  | t :: ts, ns :: nsl, h => by
    have z := h.2 0 t ns rfl rfl
    exact .cons (.tup z.1.sq (dp_ints K H ns)) (OrdsAt.dp (ts := ts) (nsl := nsl) ⟨by simpa using h.1, fun i v ms a b => h.2 (i + 1) v ms a b⟩)
end SL

namespace SL
open PySem PySem.Spec PyProof.Rows L2 LamX PySem.W
abbrev nRight : List Str := ["_law_pot_here", "_law_turn", "_law_many", "_law_spots", "_law_some", "_law_kept", "_law_made", "_law_spot", "_law_one"]
theorem scRight : FnScope nRight ["_law_pot_here"] (defScope sRight) := ⟨rfl, rfl, rfl, by decide +kernel, rfl, by decide +kernel, by decide +kernel⟩
/-- all but the pot and the tables stays -/
def KpN (p : Addr) (H H' : Hp) : Prop := ∀ b o, b ≠ p → H b = some o → (∀ ps, o ≠ .tbl ps) → H' b = some o
theorem KpN.refl (p : Addr) (H : Hp) : KpN p H H := fun _ _ _ h _ => h
theorem KpN.trans {p : Addr} {H H1 H2 : Hp} (a : KpN p H H1) (b : KpN p H1 H2) : KpN p H H2 := fun c o n h z => b c o n (a c o n h z) z
theorem KpN.kp {p : Addr} {H H' : Hp} (k : Kp p H H') : KpN p H H' := fun b o n h _ => k b o n h
theorem KpN.ext {p : Addr} {H H' : Hp} (k : ExtN H H') : KpN p H H' := fun b o _ h z => k b o h z
theorem tabs_kp {T : List (Addr × Str)} {p : Addr} {H H' : Hp} {xs : List V} (t : Tabs T H) (k : Kp p H H') (h : H p = some (.lst xs)) : Tabs T H' := fun q hq => by
  obtain ⟨ps, h1, h2, h3⟩ := t q hq
  refine ⟨ps, k _ _ (fun z => by rw [z, h] at h1; cases h1) h1, h2, fun pos cv hc => ?_⟩
  obtain ⟨c, e1, e2⟩ := h3 pos cv hc
  exact ⟨c, e1, k _ _ (fun z => by rw [z, h] at e2; unfold CodeO at e2; cases e2) e2⟩
theorem Pot.ext {H H' : Hp} {p : Addr} {m : Nat} (h : Pot H p m) (k : ExtN H H') : Pot H' p m := by
  obtain ⟨a1, a2, a3, z1, z2⟩ := h
  exact ⟨a1, a2, a3, k _ _ z1 (fun ps z => by cases z), z2⟩
theorem pot_ne {H : Hp} {p D : Addr} {m : Nat} (h : Pot H p m) (n : H D = none) : D ≠ p := fun z => by
  obtain ⟨xs, e⟩ := h.lst
  rw [z, e] at n
  cases n
/-- what is known to the last stays so -/
def Fk (H H' : Hp) : Prop := ∀ b o u, H b = some (.frz o u) → H' b = some (.frz o u)
theorem OrdsAt.keep {H H' : Hp} {n : Nat} {ts : List Addr} {nsl : List (List Int)} (h : OrdsAt H n ts nsl) (s : Fk H H') : OrdsAt H' n ts nsl := ⟨h.1, fun i t ns a b => by
  obtain ⟨⟨o, e, d⟩, p⟩ := h.2 i t ns a b
  exact ⟨⟨o, s _ _ _ e, d⟩, p⟩⟩
theorem OrdsAt.snoc {H : Hp} {n : Nat} {ts : List Addr} {nsl : List (List Int)} {t : Addr} {ns : List Int} (h : OrdsAt H n ts nsl) (f : FzT H t (ns.map V.int)) (p : ns.Perm (R n)) : OrdsAt H n (ts ++ [t]) (nsl ++ [ns]) := by
  have l := h.1
  refine ⟨by rw [List.length_append, List.length_append, l]; rfl, fun i v ms hv hm => ?_⟩
  rcases Nat.lt_or_ge i ts.length with lt | ge
  · rw [List.getElem?_append_left lt] at hv
    rw [List.getElem?_append_left (by omega)] at hm
    exact h.2 i v ms hv hm
  · have ei : i = ts.length := by
      have := (List.getElem?_eq_some_iff.mp hv).1
      rw [List.length_append, List.length_singleton] at this
      omega
    subst ei
    rw [List.getElem?_append_right (Nat.le_refl _), Nat.sub_self] at hv
    rw [List.getElem?_append_right (by omega), show ts.length - nsl.length = 0 by omega] at hm
    cases hv
    cases hm
    exact ⟨f, p⟩
theorem OrdsAt.perms {H : Hp} {n : Nat} {ts : List Addr} {nsl : List (List Int)} (h : OrdsAt H n ts nsl) : ∀ ns ∈ nsl, ns.Perm (R n) := fun ns hn => by
  obtain ⟨i, hi⟩ := List.mem_iff_getElem?.mp hn
  have li := (List.getElem?_eq_some_iff.mp hi).1
  have l := h.1
  exact (h.2 i _ ns (List.getElem?_eq_getElem (by omega)) hi).2
theorem dnoI : ∀ ns : List Int, PyData.hasDictAll (ns.map PyData.int) = false
  | [] => by simp [PyData.hasDictAll]
  | _ :: ns => by simp [PyData.hasDictAll, PyData.hasDict, dnoI ns]
theorem dnoO : ∀ nsl : List (List Int), PyData.hasDictAll (nsl.map tupI) = false
  | [] => by simp [PyData.hasDictAll]
  | ns :: nsl => by simp [PyData.hasDictAll, PyData.hasDict, tupI, dnoI, dnoO nsl]
theorem orders_dt {p : Addr} {H : Hp} : ∀ {os : List Addr} {nsl : List (List Int)}, os.length = nsl.length → (∀ (a : Nat) (t : Addr) (ns : List Int), os[a]? = some t → nsl[a]? = some ns → H t = some (.tup (ns.map V.int))) → DtAll p H (os.map V.ref) (nsl.map tupI)
  | [], [], _, _ => .nil
  | [], _ :: _, h, _ => by cases h
  | _ :: _, [], h, _ => by cases h
  | t :: os, ns :: nsl, h, f => .cons (.tup (f 0 t ns rfl rfl) (dt_ints ns)) (orders_dt (by simpa using h) fun a v ms x y => f (a + 1) v ms x y)
section
variable {P : Program} {w : World} {K : PySem.W.Frag} {mg : Str → Option Value} {base : Heap}
def spRight (Pt : Addr) : Sp := fun vs H Q _ => ∃ p : Addr, vs = [.ref p] ∧ Pot H p 10000 ∧ Tabs [(Pt, qLam)] H ∧ ∀ H' : Hp, KpN p H H' → Tabs [(Pt, qLam)] H' → Q (.bl true) H'
/-- order_at, its code object known -/
def LamAt (K : PySem.W.Frag) (mg : Str → Option Value) (c : Addr) : Prop := ∃ f fd, Fun K "order_at" "order_at" sOrderAt f fd ∧ Binds K fd ["rule", "slot"] [] ∧ mg "order_at" = some (.ref f) ∧ fd.code = .ref c
theorem ok_right {f c Pt : Addr} {fd : FuncData} {k : Nat} (F : Fun K "_law_right" "_law_right" sRight f fd) (T : Defs K mg) (LA : LamAt K mg c) (TB : TabB base mg c Pt) : FnG P w K mg base (k + 5) f fd ["_law_pot_here"] (spRight Pt) := by
  obtain ⟨fT, fdT, FT, bT, gT⟩ := T.take
  obtain ⟨fM, fdM, FM, bM, gM⟩ := T.mixed
  obtain ⟨fO, fdO, FO, bO, gO⟩ := T.ordTable
  obtain ⟨fC, fdC, FC, bC, gC⟩ := T.rule
  obtain ⟨fU, fdU, FU, bU, gU⟩ := T.ruleOf
  obtain ⟨fR, fdR, FR, bR, gR⟩ := T.ringAt
  obtain ⟨fI, fdI, FI, bI, gI⟩ := T.ordered
  obtain ⟨fA, fdA, FA, bA, gA, code⟩ := LA
  have GT : FnOk P w K mg base CX0 (k + 1) fT fdT ["_law_pot_here", "_law_size"] spTake := ok_take FT
  have GM : FnOk P w K mg base CX0 (k + 2) fM fdM ["_law_pot_here", "_law_some"] spMixed := ok_mixed FM FT bT gT T.zLen T.zList
  have GO : FnOk P w K mg base CX0 (k + 1) fO fdO ["_law_order"] spOrdT := ok_OrdT FO T
  have GC : FnOk P w K mg base CX0 (k + 4) fC fdC ["value"] spRule := ok_rule FC T
  have GU : FnOk P w K mg base CX0 (k + 2) fU fdU ["orders"] spRuleOf := ok_ruleOf FU T
  have GR : FnOk P w K mg base CX0 (k + 1) fR fdR ["rule", "slot"] spRing := ok_ring FR T
  have GI : FnOk P w K mg base CX0 (k + 2) fI fdI ["rule"] spIsO := ok_isO FI T
  have GA : FnOk P w K mg base CX0 (k + 4) fA fdA ["rule", "slot"] (spOrderAt Pt) := ok_orderAt FA code TB T
  have kbU : KBinds K fdU ["orders"] ["orders"] oneK oneK := by
    obtain ⟨oc, od, kV, doc, pm, an, cdv, ct, osl, e, look, code⟩ := FU.ex
    exact kb_one (x := "orders") (fun a => by rw [e]; rfl)
  refine fnG_mk F scRight (fun vs H Q E h => ?_) (fun cdv A outer s H vs Q E hgd hr h => ?_)
  · obtain ⟨p, rfl, _⟩ := h
    rfl
  · obtain ⟨p, rfl, hp, tabs, q⟩ := h
    have gd : (cxOf CX0 P w K mg base nRight "_law_right" (defScope sRight) f cdv A outer s H E).nox.A.guards = some [] := hgd
    have hr2 : Room (k + 2) _ := hr.mono (by omega)
    have hr1 : Room (k + 1) _ := hr.mono (by omega)
    refine ⟨_, pss_cons (ps_for PassesOwn.never rfl (pi_range1 rfl T.zRange (pa_cons pe_int pa_nil)) (pg_name (i := 1) scRight.nd rfl (Or.inl rfl))
        (pss_cons (ps_asg (pe_tup (pa_cons (pe_op op_add pe_int (pe_call GT hr1 (by rfl) gT FT.kp bT .nil pass0 (pa_cons (pv 0) (pa_cons pe_int pa_nil)))) (pa_cons (pe_op op_add pe_int (pe_call GT hr1 (by rfl) gT FT.kp bT .nil pass0 (pa_cons (pv 0) (pa_cons pe_int pa_nil)))) pa_nil)))
          (pg_tup rfl (pgs_cons (pg_name (i := 2) scRight.nd rfl (Or.inr rfl)) (pgs_cons (pg_name (i := 3) scRight.nd rfl (Or.inl rfl)) pgs_nil))))
        (pss_cons (ps_set (i := 4) scRight.nd rfl (.inl rfl) (pe_callTy call_tuple_of (by rfl) T.zTuple (by decide +kernel) (pa_cons (pe_lc (own := [("_law_spot", 7)]) (g := gName 7) (tt := tYes) (te := tCB (rTupF K) (tCons _ tNil)) rfl scRight.nd (pi_range1 rfl T.zRange (pa_cons (pv 3) pa_nil))
            (blkOk_by (own := [("_law_spot", 7)]) (N := nRight) (sc := defScope sRight) (by decide +kernel)) (fun _ _ _ _ _ => pg_name (i := 7) scRight.nd rfl (Or.inl rfl)) (fun _ _ _ _ _ => pts_nil)
            (fun _ _ _ _ _ => pe_callTy call_tupF (by rfl) T.zTuple (by decide +kernel) (pa_cons (pe_call GM hr2 (by rfl) gM FM.kp bM .nil pass0 (pa_cons (pv 0) (pa_cons (pe_listRg rfl (by rfl) T.zList (prg_1 (by rfl) T.zRange (pv 2))) pa_nil))) pa_nil))) pa_nil)))
        (pss_cons (ps_asg (pe_tup (pa_cons (pe_callB (call_reprD gd hr.units) (by rfl) T.zRepr (by decide +kernel) (pa_cons (pv 4) pa_nil)) (pa_cons (pe_call GU hr2 (by rfl) gU FU.kp bU .nil pass0 (pa_cons (pv 4) pa_nil)) pa_nil)))
          (pg_tup rfl (pgs_cons (pg_name (i := 5) scRight.nd rfl (Or.inl rfl)) (pgs_cons (pg_name (i := 6) scRight.nd rfl (Or.inr rfl)) pgs_nil))))
        (pss_cons (ps_if (PW.pt (pw_or (pt_cmpR op_ne (pe_callB (call_reprD gd hr.units) (by rfl) T.zRepr (by decide +kernel) (pa_cons (pv 6) pa_nil))
            (pe_callB (call_reprD gd hr.units) (by rfl) T.zRepr (by decide +kernel) (pa_cons (pe_callTy call_tuple_of (by rfl) T.zTuple (by decide +kernel) (pa_cons (pe_lc (own := [("_law_one", 8)]) (g := gName 8) (tt := tYes) rfl scRight.nd (pi_tup (pv 4))
              (blkOk_by (own := [("_law_one", 8)]) (N := nRight) (sc := defScope sRight) (by decide +kernel)) (fun _ _ _ _ _ => pg_name (i := 8) scRight.nd rfl (Or.inl rfl)) (fun _ _ _ _ _ => pts_nil)
              (fun _ _ _ _ _ => pe_call GO hr1 (by rfl) gO FO.kp bO .nil pass0 (pa_cons (pv 8) pa_nil))) pa_nil)) pa_nil)) (nomark _))
            (pw_or1 (pt_not (pt_val (pe_call GC hr (by rfl) gC FC.kp bC .nil pass0 (pa_cons (pv 6) pa_nil))))))) (pss_one (ps_ret pe_bl)) pss_nil)
        (pss_cons (ps_if (PW.pt (pw_or (pt_cmpR op_ne (pe_callB (call_reprD gd hr.units) (by rfl) T.zRepr (by decide +kernel) (pa_cons (pe_callK0 GU hr2 (by rfl) gU FU.kp kbU pass0 (pk_cons (pv 4) pk_nil)) pa_nil)) (pe_callB (call_reprD gd hr.units) (by rfl) T.zRepr (by decide +kernel) (pa_cons (pv 6) pa_nil)) (nomark _))
            (pw_or1 (pt_cmpR op_ne (pe_callB (call_reprD gd hr.units) (by rfl) T.zRepr (by decide +kernel) (pa_cons (pv 4) pa_nil)) (pv 5) (nomark _))))) (pss_one (ps_ret pe_bl)) pss_nil)
        (pss_cons (ps_if (pt_cmpR op_ne (pe_callB (call_reprD gd hr.units) (by rfl) T.zRepr (by decide +kernel) (pa_cons (pe_callTy call_tuple_of (by rfl) T.zTuple (by decide +kernel) (pa_cons (pe_lc (own := [("_law_spot", 7)]) (g := gName 7) (tt := tYes) rfl scRight.nd (pi_range1 rfl T.zRange (pa_cons (pv 3) pa_nil))
              (blkOk_by (own := [("_law_spot", 7)]) (N := nRight) (sc := defScope sRight) (by decide +kernel)) (fun _ _ _ _ _ => pg_name (i := 7) scRight.nd rfl (Or.inl rfl)) (fun _ _ _ _ _ => pts_nil)
              (fun _ _ _ _ _ => pe_call GA hr (by rfl) gA FA.kp bA .nil pass0 (pa_cons (pv 6) (pa_cons (pv 7) pa_nil)))) pa_nil)) pa_nil)) (pv 5) (nomark _)) (pss_one (ps_ret pe_bl)) pss_nil)
        (pss_one (ps_if (PW.pt (pw_or (pt_val (pe_callB (cr_any rfl) (by rfl) T.zAny (by decide +kernel) (pa_cons (pe_lc (own := [("_law_spot", 7)]) (g := gName 7) (tt := tYes) rfl scRight.nd (pi_range1 rfl T.zRange (pa_cons (pv 3) pa_nil))
              (blkOk_by (own := [("_law_spot", 7)]) (N := nRight) (sc := defScope sRight) (by decide +kernel)) (fun _ _ _ _ _ => pg_name (i := 7) scRight.nd rfl (Or.inl rfl)) (fun _ _ _ _ _ => pts_nil)
              (fun _ _ _ _ _ => pe_cmpR op_notN (pe_call GR hr1 (by rfl) gR FR.kp bR .nil pass0 (pa_cons (pv 6) (pa_cons (pv 7) pa_nil))) pe_non (nomark _))) pa_nil)))
            (pw_or1 (pt_cmpR op_notBl (pe_call GI hr2 (by rfl) gI FI.kp bI .nil pass0 (pa_cons (pv 6) pa_nil)) pe_bl (nomark _))))) (pss_one (ps_ret pe_bl)) pss_nil)))))))))
      (pss_one (ps_ret pe_bl)), ?_⟩
    refine ⟨3, rfl, by decide, by decide, for_range (lo := 0) (n := (3 : Int).toNat) (fun i σ G1 => i ≤ 3 ∧ (∃ y1 y2 y3 y4 y5 y6 y7 y8, σ = [some (.ref p), y1, y2, y3, y4, y5, y6, y7, y8]) ∧ Pot G1 p (3000 * (3 - i)) ∧ KpN p H G1 ∧ Tabs [(Pt, qLam)] G1) ?_ ?_ ?_⟩
    · exact ⟨by omega, ⟨_, _, _, _, _, _, _, _, rfl⟩, hp.less (by omega), KpN.refl p H, tabs⟩
    · rintro i σ G1 hi ⟨i3, ⟨y1, y2, y3, y4, y5, y6, y7, y8, rfl⟩, pot1, kp1, tb1⟩
      have lt3 : i < 3 := hi
      refine ⟨.ref p, rfl, p, 16, 3000 * (2 - i) + 2900, rfl, pot1.less (by omega), by decide, by decide, fun G2 r kp2 pot2 r0 r1 => ?_⟩
      obtain ⟨m, rfl⟩ : ∃ m : Nat, r = m := ⟨r.toNat, by omega⟩
      refine ⟨1, m, rfl, rfl, ?_⟩
      refine ⟨.ref p, rfl, p, 16, 3000 * (2 - i) + 2800, rfl, pot2.less (by omega), by decide, by decide, fun G3 r2 kp3 pot3 r20 r21 => ?_⟩
      obtain ⟨m2, rfl⟩ : ∃ m2 : Nat, r2 = m2 := ⟨r2.toNat, by omega⟩
      refine ⟨1, m2, rfl, rfl, Nat.le_of_lt (small1000 (by show 2 ≤ 1000; decide)), fun t3 nt3 => ?_⟩
      refine ⟨t3, _, rfl, SqT.of upd_same, rfl, _, _, rfl, _, _, rfl, rfl, ?_⟩
      have s3 := same_new (o := .tup [.int (1 + (m : Int)), .int (1 + (m2 : Int))]) nt3
      obtain ⟨px1, hpx1⟩ := pot1.lst
      obtain ⟨px2, hpx2⟩ := pot2.lst
      have tb3 := (tabs_kp (tabs_kp tb1 kp2 hpx1) kp3 hpx2).ext s3
      have kp3' := ((kp1.trans (KpN.kp kp2)).trans (KpN.kp kp3)).trans (KpN.ext (ExtN.of s3))
      have pot3' := pot3.same s3
      generalize upd G3 t3 (.tup [.int (1 + (m : Int)), .int (1 + (m2 : Int))]) = G3' at tb3 kp3' pot3' ⊢
      have n0 : 0 < 1 + m := by omega
      have n16 : 1 + m ≤ 16 := by omega
      -- the orders
      refine ⟨_, rfl, (((1 + m2 : Nat) : Int)), rfl, by omega, by omega, fun D nD => ?_⟩
      have nDp : D ≠ p := pot_ne pot3' nD
      have eN : (((1 + m2 : Nat) : Int)).toNat = 1 + m2 := by omega
      refine lc_range (lo := 0) (n := (((1 + m2 : Nat) : Int)).toNat) (fun j G4 => ∃ (ts : List Addr) (nsl : List (List Int)), G4 D = some (.lst (ts.map V.ref)) ∧ ts.length = j ∧ j ≤ 1 + m2 ∧ OrdsAt G4 (1 + m) ts nsl ∧ Kp p G3' G4 ∧ Pot G4 p (3000 * (2 - i) + 20 + 20 * (1 + m2 - j))) ?_ ?_ ?_
      · exact ⟨[], [], upd_same, rfl, by omega, ⟨rfl, fun i t ns e => by simp at e⟩, Kp.same (same_new nD), (pot3'.same (same_new nD)).less (by omega)⟩
      · rintro j G4 hj ⟨ts, nsl, hD, lenT, j8, ords, kp4, pot4⟩
        have lj : j < 1 + m2 := by omega
        refine ⟨rfl, .ref p, rfl, _, rfl, (((1 + m : Nat) : Int)), rfl, RgOk.of_le (by omega) (by omega) (by omega) (by omega), fun l nl => ?_⟩
        rw [rgV_R]
        have s5 := same_new (o := .lst ((R (1 + m)).map V.int)) nl
        refine ⟨p, l, R (1 + m), 3000 * (2 - i) + 20 + 20 * (1 + m2 - (j + 1)), rfl, (pot4.same s5).less (by rw [R_len]; omega), upd_same, by rw [R_len]; omega, fun G5 u out kp5 pot5 nu hu perm => ?_⟩
        refine ⟨u, _, rfl, SqL.of hu, fun t ob nt dn => ?_⟩
        have s6 := same_new (o := .frz ob (.tup (out.map V.int))) nt
        have hD5 : G5 D = some (.lst (ts.map V.ref)) := kp5 _ _ nDp (s5 _ _ hD)
        have hD6 := s6 _ _ hD5
        obtain ⟨px4, hpx4⟩ := (pot4.same s5).lst
        have fk5 : Fk G4 G5 := fun b o v e => kp5 _ _ (fun z => by
          have e' := s5 _ _ e
          rw [z, hpx4] at e'
          cases e') (s5 _ _ e)
        have fkD : Fk (upd G5 t (.frz ob (.tup (out.map V.int)))) (upd (upd G5 t (.frz ob (.tup (out.map V.int)))) D (.lst (ts.map V.ref ++ [.ref t]))) := fun b o v e => by
          rw [upd_ne (fun z => by rw [z, hD6] at e; cases e)]
          exact e
        refine ⟨_, hD6, ?_, ts ++ [t], nsl ++ [out], ?_, ?_, by omega, ?_, fun b o nb hb => ?_, ?_⟩
        · rw [List.length_map]
          exact small1000 (by omega)
        · rw [upd_same, List.map_append]
          rfl
        · rw [List.length_append, lenT]
          rfl
        · exact ((((ords.keep fk5).keep fun b o v e => s6 _ _ e)).snoc ⟨ob, upd_same, dn⟩ perm).keep fkD
        · rw [upd_ne (ne_of_none hb nD)]
          exact s6 _ _ (kp5 _ _ nb (s5 _ _ (kp4 _ _ nb hb)))
        · obtain ⟨a1, a2, a3, z1, z2⟩ := pot5.same s6
          exact ⟨a1, a2, a3, by rw [upd_ne nDp.symm]; exact z1, z2⟩
      · rintro G4 ⟨ts, nsl, hD, lenT, _, ords, kp4, pot4⟩
        rw [eN] at lenT
        obtain ⟨px3, hpx3⟩ := pot3'.lst
        have tb4 := tabs_kp tb3 kp4 hpx3
        refine ⟨D, _, rfl, .inl ⟨SqL.of hD, fun tT ntT => ?_⟩⟩
        have s5 := same_new (o := .tup (ts.map V.ref)) ntT
        have hT : upd G4 tT (.tup (ts.map V.ref)) tT = some (.tup (ts.map V.ref)) := upd_same
        have ords5 := ords.same s5
        have pot5 := (pot4.same s5).less (m := 3000 * (2 - i)) (by omega)
        have kp5 := (kp3'.trans (KpN.kp kp4)).trans (KpN.ext (ExtN.of s5))
        have tb5 := tb4.ext s5
        generalize upd G4 tT (.tup (ts.map V.ref)) = G5 at hT ords5 pot5 kp5 tb5 ⊢
        have perms := ords5.perms
        have lenN : nsl.length = 1 + m2 := by rw [← ords5.1, lenT]
        have good := el_orders perms n16 (by omega)
        have fits := Good.fits good
        have daO : ∀ {G : Hp}, Same G5 G → Da K G (.ref tT) (.tuple (nsl.map tupI)) := fun sm => Or.inl ⟨.tup (SqT.of (sm _ _ hT)) (ords5.same sm).dp, by simp [PyData.hasDict, dnoO]⟩
        refine ⟨.ref tT, rfl, .ref tT, _, rfl, daO (Same.refl G5), fits.1, fits.2.1, fits.2.2, ?_⟩
        refine ⟨.ref tT, rfl, tT, 1 + m, ts, nsl, rfl, hT, ords5, by omega, by omega, fun G6 rr us sm6 hrr tabs6 => ?_⟩
        refine ⟨Nat.le_of_lt (small1000 (by show 2 ≤ 1000; decide)), fun t7 nt7 => ?_⟩
        refine ⟨t7, _, rfl, SqT.of upd_same, rfl, _, _, rfl, _, _, rfl, rfl, ?_⟩
        have s7 := same_new (o := .tup [.str (PyData.shown (.tuple (nsl.map tupI))), .ref rr]) nt7
        have sm7 := sm6.trans s7
        have hrr7 := s7 _ _ hrr
        have tabs7 := tabs6.keep (Same.tk s7)
        have hT7 := sm7 _ _ hT
        have ords7 := ords5.same sm7
        have pot7 := pot5.same sm7
        have kp7 := kp5.trans (KpN.ext (ExtN.of sm7))
        have tb7 := tb5.ext sm7
        generalize upd G6 t7 (.tup [.str (PyData.shown (.tuple (nsl.map tupI))), .ref rr]) = G7 at sm7 hrr7 tabs7 hT7 ords7 pot7 kp7 tb7 ⊢
        obtain ⟨l, bel, dts⟩ := tabs7.data (p := p)
        have tbs := bel.tb perms
        have lenL := bel.len
        have goodR := el_rule tbs n16 (by omega)
        have fitsR := Good.fits goodR
        have thR : ∀ {G : Hp}, Same G7 G → Th p G (.ref rr) (.tuple (l.map tabD)) := fun sm => .dat (Dt.keep (Same.dk sm) (.tup hrr7 dts))
        have same_ : ∀ x : Str, (!decide (V.str x = V.str x)) = false := fun x => by rw [decide_eq_true rfl]; rfl
        have lenU : us.length = 1 + m2 := by rw [tabs7.1, lenN]
        -- the tables again
        refine ⟨.ref rr, rfl, .ref rr, _, rfl, (thR (Same.refl G7)).da, fitsR.1, fitsR.2.1, fitsR.2.2, ?_⟩
        refine ⟨.ref tT, rfl, tT, rfl, ⟨_, SqT.of hT7⟩, fun D2 nD2 => ?_⟩
        refine lc_tup (K := K) (a := tT) (xs := ts.map V.ref) (fun j G => Same G7 G ∧ j ≤ ts.length ∧ ∃ us2 : List Addr, G D2 = some (.lst (us2.map V.ref)) ∧ us2.length = j ∧ TabsAt G (1 + m) us2 (nsl.take j)) ⟨same_new nD2, Nat.zero_le _, [], upd_same, rfl, by simp, fun j u ns e => by simp at e⟩ (fun j G _ h => SqT.of (h.1 _ _ hT7)) ?_ ?_
        · rintro j x G hx ⟨sm, _, us2, hD2, lu, tabs2⟩
          rw [List.getElem?_map] at hx
          obtain ⟨t, ht, rfl⟩ := Option.map_eq_some_iff.mp hx
          have lj : j < ts.length := (List.getElem?_eq_some_iff.mp ht).1
          have hn : nsl[j]? = some (nsl[j]'(by omega)) := List.getElem?_eq_getElem (by omega)
          obtain ⟨fz, perm⟩ := (ords7.same sm).2 j t _ ht hn
          refine ⟨rfl, .ref t, rfl, t, _, 1 + m, rfl, fz, perm, by omega, fun G8 u xs nss s8 nu hu rows ord => ?_⟩
          have hD8 := s8 _ _ hD2
          have tkD : Tk G8 (upd G8 D2 (.lst (us2.map V.ref ++ [.ref u]))) := fun c zs e => by
            rw [upd_ne (fun z => by rw [z, hD8] at e; cases e)]
            exact e
          refine ⟨_, hD8, ?_, fun b o hb => ?_, by omega, us2 ++ [u], ?_, ?_, (((tabs2.keep (Same.tk s8)).snoc lu hn hu rows ord)).keep tkD⟩
          · rw [List.length_map]
            exact small1000 (by omega)
          · rw [upd_ne (ne_of_none hb nD2)]
            exact s8 _ _ (sm _ _ hb)
          · rw [upd_same, List.map_append]
            rfl
          · rw [List.length_append, lu]
            rfl
        rintro G8 ⟨sm8, _, us2, hD2, lu2, tabs8⟩
        rw [List.length_map, ords5.1, List.take_length] at tabs8
        refine ⟨D2, _, rfl, .inl ⟨SqL.of hD2, fun t9 nt9 => ?_⟩⟩
        have s9 := same_new (o := .tup (us2.map V.ref)) nt9
        obtain ⟨l2, bel2, dts2⟩ := (tabs8.keep (Same.tk s9)).data (p := p)
        have el2 := bel2.one bel
        subst el2
        have sm9 := sm8.trans s9
        refine ⟨.ref t9, _, rfl, (Th.dat (.tup upd_same dts2)).da, fitsR.1, fitsR.2.1, fitsR.2.2, rfl, ?_⟩
        rw [same_]
        refine ⟨_, rfl, ?_⟩
        generalize upd G8 t9 (.tup (us2.map V.ref)) = G9 at sm9 ⊢
        have fwR : fw (.tuple (l2.map tabD)) = true := goodR.fw
        refine ⟨.ref rr, rfl, p, .ref rr, _, rfl, thR sm9, fwR, fun b G10 s10 ib => ?_⟩
        have eb : b = true := ib.mpr (isR_of tbs n0 n16 (by omega) (by omega))
        subst eb
        refine ⟨_, rfl, ?_⟩
        have sm10 := sm9.trans s10
        -- rule_of_orders by its name
        refine ⟨.ref tT, rfl, tT, 1 + m, ts, nsl, rfl, sm10 _ _ hT7, ords7.same sm10, by omega, by omega, fun G11 rr2 us3 s11 hrr2 tabs11 => ?_⟩
        obtain ⟨l3, bel3, dts3⟩ := tabs11.data (p := p)
        have el3 := bel3.one bel
        subst el3
        have sm11 := sm10.trans s11
        refine ⟨.ref rr2, _, rfl, (Th.dat (.tup hrr2 dts3)).da, fitsR.1, fitsR.2.1, fitsR.2.2, ?_⟩
        refine ⟨.ref rr, rfl, .ref rr, _, rfl, (thR sm11).da, fitsR.1, fitsR.2.1, fitsR.2.2, rfl, ?_⟩
        rw [same_]
        refine ⟨_, rfl, ?_⟩
        refine ⟨.ref tT, rfl, .ref tT, _, rfl, daO (sm7.trans sm11), fits.1, fits.2.1, fits.2.2, _, rfl, rfl, ?_⟩
        rw [same_]
        refine ⟨_, rfl, ?_⟩
        -- order_at
        have tb11 := tb7.ext sm11
        have hrr11 := sm11 _ _ hrr7
        have tabs11' := tabs7.keep (Same.tk sm11)
        refine ⟨_, rfl, (((1 + m2 : Nat) : Int)), rfl, by omega, by omega, fun D3 nD3 => ?_⟩
        refine lc_range (lo := 0) (n := (((1 + m2 : Nat) : Int)).toNat) (fun j G => ExtN G11 G ∧ Tabs [(Pt, qLam)] G ∧ j ≤ 1 + m2 ∧ ∃ os : List Addr, G D3 = some (.lst (os.map V.ref)) ∧ os.length = j ∧ ∀ (a : Nat) (t : Addr) (ns : List Int), os[a]? = some t → nsl[a]? = some ns → G t = some (.tup (ns.map V.int)))
          ⟨ExtN.of (same_new nD3), tb11.ext (same_new nD3), by omega, [], upd_same, rfl, fun a t ns e => by simp at e⟩ ?_ ?_
        · rintro j G hj ⟨ext, tbG, _, os, hD3, lo, all⟩
          have lj : j < 1 + m2 := by omega
          have tkG : Tk G11 G := fun b ys e => ext _ _ e (fun ps z => by cases z)
          have hu : us[j]? = some (us[j]'(by omega)) := List.getElem?_eq_getElem (by omega)
          have hn : nsl[j]? = some (nsl[j]'(by omega)) := List.getElem?_eq_getElem (by omega)
          obtain ⟨xs, nss, h1, h2, h3⟩ := (tabs11'.keep tkG).2 j _ _ hu hn
          refine ⟨rfl, .ref rr, rfl, _, rfl, rr, _, j, 1 + m, us, xs, _, nss, by rw [Int.zero_add]; rfl, tkG _ _ hrr11, hu, h1, h2, h3, perms _ (List.getElem_mem _), by omega, tbG, fun G12 t ext2 tb12 ht => ?_⟩
          have hD12 : G12 D3 = some (.lst (os.map V.ref)) := ext2 _ _ hD3 (fun ps z => by cases z)
          have kpD : Kp D3 G12 (upd G12 D3 (.lst (os.map V.ref ++ [.ref t]))) := fun b o nb h => by
            rw [upd_ne nb]
            exact h
          have tkD : Tk G12 (upd G12 D3 (.lst (os.map V.ref ++ [.ref t]))) := fun b ys e => by
            rw [upd_ne (fun z => by rw [z, hD12] at e; cases e)]
            exact e
          refine ⟨_, hD12, ?_, fun b o hb nz => ?_, tabs_kp tb12 kpD hD12, by omega, os ++ [t], ?_, ?_, fun a v ms hv hm => ?_⟩
          · rw [List.length_map]
            exact small1000 (by omega)
          · rw [upd_ne (ne_of_none hb nD3)]
            exact ext2 _ _ (ext _ _ hb nz) nz
          · rw [upd_same, List.map_append]
            rfl
          · rw [List.length_append, lo]
            rfl
          · rcases Nat.lt_or_ge a os.length with lt | ge
            · rw [List.getElem?_append_left lt] at hv
              exact tkD _ _ (ext2 _ _ (all a v ms hv hm) (fun ps z => by cases z))
            · have ea : a = os.length := by
                have := (List.getElem?_eq_some_iff.mp hv).1
                rw [List.length_append, List.length_singleton] at this
                omega
              subst ea
              rw [List.getElem?_append_right (Nat.le_refl _), Nat.sub_self] at hv
              cases hv
              rw [lo, hn] at hm
              cases hm
              exact tkD _ _ ht
        rintro G12 ⟨ext12, tb12, _, os, hD3, lo, all⟩
        rw [eN] at lo
        refine ⟨D3, _, rfl, .inl ⟨SqL.of hD3, fun t13 nt13 => ?_⟩⟩
        have s13 := same_new (o := .tup (os.map V.ref)) nt13
        have dO : Dt p (upd G12 t13 (.tup (os.map V.ref))) (.ref t13) (.tuple (nsl.map tupI)) := .tup upd_same (DtAll.keep (Same.dk s13) (orders_dt (by omega) all))
        refine ⟨.ref t13, _, rfl, (Th.dat dO).da, fits.1, fits.2.1, fits.2.2, _, rfl, rfl, ?_⟩
        rw [same_]
        refine ⟨_, rfl, ?_⟩
        have ext13 := ext12.trans (ExtN.of s13)
        have tb13 := tb12.ext s13
        generalize upd G12 t13 (.tup (os.map V.ref)) = G13 at ext13 tb13 ⊢
        have tk13 : Tk G11 G13 := fun b ys e => ext13 _ _ e (fun ps z => by cases z)
        have hrr13 := tk13 _ _ hrr11
        have tabs13 := tabs11'.keep tk13
        -- ring_at
        refine ⟨_, rfl, (((1 + m2 : Nat) : Int)), rfl, by omega, by omega, fun D4 nD4 => ?_⟩
        refine lc_range (lo := 0) (n := (((1 + m2 : Nat) : Int)).toNat) (fun j G => Same G13 G ∧ G D4 = some (.lst ((List.replicate j false).map V.bl))) ⟨same_new nD4, upd_same⟩ ?_ ?_
        · rintro j G hj ⟨sm, hD4⟩
          have lj : j < 1 + m2 := by omega
          have hu : us[j]? = some (us[j]'(by omega)) := List.getElem?_eq_getElem (by omega)
          have hn : nsl[j]? = some (nsl[j]'(by omega)) := List.getElem?_eq_getElem (by omega)
          obtain ⟨xs, nss, h1, h2, h3⟩ := (tabs13.keep (Same.tk sm)).2 j _ _ hu hn
          refine ⟨rfl, .ref rr, rfl, _, rfl, rr, _, j, 1 + m, us, xs, _, nss, by rw [Int.zero_add]; rfl, sm _ _ hrr13, hu, h1, h2, h3, perms _ (List.getElem_mem _), by omega, rfl, ?_⟩
          refine ⟨_, hD4, ?_, fun b o hb => ?_, ?_⟩
          · rw [List.length_map, List.length_replicate]
            exact small1000 (by omega)
          · rw [upd_ne (ne_of_none hb nD4)]
            exact sm _ _ hb
          · rw [upd_same, List.replicate_succ', List.map_append]
            rfl
        rintro G14 ⟨sm14, hD4⟩
        refine ⟨D4, _, rfl, SqL.of hD4, _, rfl, ?_⟩
        rw [show (List.replicate _ false).any id = false by simp]
        refine ⟨.ref rr, rfl, rr, 1 + m, us, nsl, rfl, sm14 _ _ hrr13, tabs13.keep (Same.tk sm14), perms, by omega, by omega, fun G15 s15 => ?_⟩
        refine ⟨true, true, rfl, rfl, _, rfl, ?_⟩
        have extE := (ExtN.of sm11).trans (ext13.trans (ExtN.of (sm14.trans s15)))
        exact ⟨by omega, ⟨_, _, _, _, _, _, _, _, rfl⟩, (pot7.ext extE).less (by omega), kp7.trans (KpN.ext extE), tb13.ext (sm14.trans s15)⟩
    · rintro σ G1 ⟨_, ⟨y1, y2, y3, y4, y5, y6, y7, y8, rfl⟩, pot1, kp1, tb1⟩
      exact q G1 kp1 tb1
end
end SL

namespace SL
open PySem PySem.Spec PyProof.Rows L2 LamX PySem.W
abbrev nLaw : List Str := ["_law_script", "_law_k"]
theorem scLaw : FnScope nLaw ["_law_script"] (defScope sLaw) := ⟨rfl, rfl, rfl, by decide +kernel, rfl, by decide +kernel, by decide +kernel⟩
theorem ext_seq {K : PySem.W.Frag} {H H' : Hp} {a : Addr} {xs : List V} (e : ExtN H H') (h : SqL K H a xs) : SqL K H' a xs := by
  rcases h with (h | ⟨o, h⟩) | h
  · exact Or.inl (Or.inl (e _ _ h (fun ps z => by cases z)))
  · exact Or.inl (Or.inr ⟨o, e _ _ h (fun ps z => by cases z)⟩)
  · exact Or.inr h
section
variable {P : Program} {w : World} {K : PySem.W.Frag} {mg : Str → Option Value} {base : Heap}
def spLaw (cs : List (Addr × Addr)) (K : PySem.W.Frag) : Sp := fun vs H Q _ => ∃ (a : Addr) (ns : List Int), vs = [.ref a] ∧ SqL K H a (ns.map V.int) ∧ ns.length ≤ 63 ∧ (∀ p ∈ cs, H p.2 = some (.tbl #[])) ∧ ∀ H' : Hp, Q (.bl true) H'
theorem ok_law {f c Pt : Addr} {fd : FuncData} (F : Fun K "law" "law" sLaw f fd) (T : Defs K mg) (LA : LamAt K mg c) (TB : TabB base mg c Pt) : FnG P w K mg base 6 f fd ["_law_script"] (spLaw [(c, Pt)] K) := by
  obtain ⟨fR, fdR, FR, bR, gR⟩ := T.right
  obtain ⟨fP, fdP, FP, bP, gP⟩ := T.pot
  have GR : FnG P w K mg base 5 fR fdR ["_law_pot_here"] (spRight Pt) := ok_right (k := 0) FR T LA TB
  have GP : FnOk P w K mg base CX0 1 fP fdP ["_law_script", "_law_k"] (spPot K) := ok_pot FP T.zLen T.zAbs
  refine fnG_mk F scLaw (fun vs H Q E h => ?_) (fun cdv A outer s H vs Q E hgd hr h => ?_)
  · obtain ⟨a, ns, rfl, _⟩ := h
    rfl
  · obtain ⟨a, ns, rfl, hS, few, em, q⟩ := h
    refine ⟨_, pss_one (ps_ret (pe_callB (cr_all rfl) (by rfl) T.zAll (by decide +kernel) (pa_cons (pe_lc (own := [("_law_k", 1)]) (g := gName 1) (tt := tYes) rfl scLaw.nd
      (pi_range1 rfl T.zRange (pa_cons (pe_callB (call_max2 rfl) (by rfl) T.zMax (by decide +kernel) (pa_cons pe_int (pa_cons (pe_callB (call_min2 rfl) (by rfl) T.zMin (by decide +kernel) (pa_cons pe_int (pa_cons (pe_callB call_len_seq (by rfl) T.zLen PySem.boot_len (pa_cons (pv 0) pa_nil)) pa_nil))) pa_nil))) pa_nil))
      (blkOk_by (own := [("_law_k", 1)]) (N := nLaw) (sc := defScope sLaw) (by decide +kernel)) (fun _ _ _ _ _ => pg_name (i := 1) scLaw.nd rfl (Or.inl rfl)) (fun _ _ _ _ _ => pts_nil)
      (fun _ _ _ _ _ => pe_callG GR hgd hr (by rfl) gR FR.kp bR (pa_cons (pe_call GP (hr.mono (by omega)) (by rfl) gP FP.kp bP .nil pass0 (pa_cons (pv 0) (pa_cons (pv 1) pa_nil))) pa_nil))) pa_nil))), ?_⟩
    have tabs : Tabs [(Pt, qLam)] H := fun p hp => by
      rw [List.mem_singleton.mp hp]
      exact TabS.nil (em (c, Pt) List.mem_cons_self)
    refine ⟨.ref a, rfl, a, _, rfl, .inl hS, 3, _, rfl, 1, _, rfl, _, rfl, ?_, ?_, fun D nD => ?_⟩
    · split <;> omega
    · split <;> (try split) <;> omega
    have top : ∀ m : Int, (if (if m < 3 then m else 3) > 1 then (if m < 3 then m else 3) else 1).toNat ≤ 3 := fun m => by
      split <;> (try split) <;> omega
    refine lc_range (lo := 0) (n := _) (fun j G => ExtN H G ∧ Tabs [(Pt, qLam)] G ∧ G D = some (.lst ((List.replicate j true).map V.bl))) ⟨ExtN.of (same_new nD), tabs.ext (same_new nD), upd_same⟩ ?_ ?_
    · rintro j G hj ⟨ext, tb, hD⟩
      have j3 : j < 3 := Nat.lt_of_lt_of_le hj (top _)
      refine ⟨rfl, .ref a, rfl, _, rfl, a, ns, 0 + j, rfl, ext_seq ext hS, by omega, fun G1 p sm1 np pot => ?_⟩
      refine ⟨p, rfl, pot.less (by omega), tb.ext sm1, fun G2 kp tb2 => ?_⟩
      have nDp : D ≠ p := ne_of_none hD np
      have hD2 : G2 D = some (.lst ((List.replicate j true).map V.bl)) := kp _ _ nDp (sm1 _ _ hD) (fun ps z => by cases z)
      have kpD : Kp D G2 (upd G2 D (.lst ((List.replicate j true).map V.bl ++ [.bl true]))) := fun b o nb h => by
        rw [upd_ne nb]
        exact h
      refine ⟨_, hD2, ?_, fun b o hb nz => ?_, tabs_kp tb2 kpD hD2, ?_⟩
      · rw [List.length_map, List.length_replicate]
        exact small1000 (by omega)
      · have hG := ext _ _ hb nz
        rw [upd_ne (ne_of_none hb nD)]
        exact kp _ _ (ne_of_none hG np) (sm1 _ _ hG) nz
      · rw [upd_same, List.replicate_succ', List.map_append]
        rfl
    · rintro G ⟨ext, tb, hD⟩
      refine ⟨D, _, rfl, SqL.of hD, ?_⟩
      rw [show (List.replicate _ true).all id = true by simp]
      exact q G
end
theorem all_mk {l : PySem.W.OpenLaw} {w : World} {K : PySem.W.Frag} {h : Heap} {mg : Str → Option Value} {fa : Addr} (X : K.In h) (G : h.Ns mainGlobals mg) (hfa : mg "law" = some (.ref fa))
    {f1 f2 f3 f4 f5 f6 f7 f8 f9 f10 f11 f12 f13 f14 f15 f16 f17 c Pt : Addr} {od1 an1 od2 an2 od3 an3 od4 an4 od5 an5 od6 an6 od7 an7 od8 an8 od9 an9 od10 an10 od11 an11 od12 an12 od13 an13 od14 an14 od15 an15 od16 an16 od17 an17 : Option Addr} {sl1 sl2 sl3 sl4 sl5 sl6 sl7 sl8 sl9 sl10 sl11 sl12 sl13 sl14 sl15 sl16 sl17 : Array (Option Value)} {oc1 kV1 dc1 pm1 cd1 ct1 oc2 kV2 dc2 pm2 cd2 ct2 oc3 kV3 dc3 pm3 cd3 ct3 oc4 kV4 dc4 pm4 cd4 ct4 oc5 kV5 dc5 pm5 cd5 ct5 oc6 kV6 dc6 pm6 cd6 ct6 oc7 kV7 dc7 pm7 cd7 ct7 oc8 kV8 dc8 pm8 cd8 ct8 oc9 kV9 dc9 pm9 cd9 ct9 oc10 kV10 dc10 pm10 cd10 ct10 oc11 kV11 dc11 pm11 cd11 ct11 oc12 kV12 dc12 pm12 cd12 ct12 oc13 kV13 dc13 pm13 cd13 ct13 oc14 kV14 dc14 pm14 cd14 ct14 oc15 kV15 dc15 pm15 cd15 ct15 oc16 kV16 dc16 pm16 cd16 ct16 oc17 kV17 dc17 pm17 cd17 ct17 : Value} {tm : Tok}
    (a1 : PySem.W.nsIn K mainGlobals "is_integer_within" = some (some (.ref f1))) (l1 : K.lookup f1 = some ⟨oc1, od1, .func (PySem.W.fnOf "is_integer_within" "is_integer_within" (defArgs sWithin) (defBody sWithin) (defScope sWithin) .none kV1 dc1 pm1 an1 cd1 ct1), sl1⟩) (c1 : PySem.W.codeIn K cd1 "is_integer_within" = true) (k1 : PySem.W.keepIn K (.ref f1) = true)
    (a2 : PySem.W.nsIn K mainGlobals "is_rule" = some (some (.ref f2))) (l2 : K.lookup f2 = some ⟨oc2, od2, .func (PySem.W.fnOf "is_rule" "is_rule" (defArgs sRule) (defBody sRule) (defScope sRule) .none kV2 dc2 pm2 an2 cd2 ct2), sl2⟩) (c2 : PySem.W.codeIn K cd2 "is_rule" = true) (k2 : PySem.W.keepIn K (.ref f2) = true)
    (a3 : PySem.W.nsIn K mainGlobals "is_sized" = some (some (.ref f3))) (l3 : K.lookup f3 = some ⟨oc3, od3, .func (PySem.W.fnOf "is_sized" "is_sized" (defArgs sSized) (defBody sSized) (defScope sSized) .none kV3 dc3 pm3 an3 cd3 ct3), sl3⟩) (c3 : PySem.W.codeIn K cd3 "is_sized" = true) (k3 : PySem.W.keepIn K (.ref f3) = true)
    (a4 : PySem.W.nsIn K mainGlobals "is_table" = some (some (.ref f4))) (l4 : K.lookup f4 = some ⟨oc4, od4, .func (PySem.W.fnOf "is_table" "is_table" (defArgs sTable) (defBody sTable) (defScope sTable) .none kV4 dc4 pm4 an4 cd4 ct4), sl4⟩) (c4 : PySem.W.codeIn K cd4 "is_table" = true) (k4 : PySem.W.keepIn K (.ref f4) = true)
    (a5 : PySem.W.nsIn K mainGlobals "is_ascending" = some (some (.ref f5))) (l5 : K.lookup f5 = some ⟨oc5, od5, .func (PySem.W.fnOf "is_ascending" "is_ascending" (defArgs sAscending) (defBody sAscending) (defScope sAscending) .none kV5 dc5 pm5 an5 cd5 ct5), sl5⟩) (c5 : PySem.W.codeIn K cd5 "is_ascending" = true) (k5 : PySem.W.keepIn K (.ref f5) = true)
    (a6 : PySem.W.nsIn K mainGlobals "is_decided" = some (some (.ref f6))) (l6 : K.lookup f6 = some ⟨oc6, od6, .func (PySem.W.fnOf "is_decided" "is_decided" (defArgs sDecided) (defBody sDecided) (defScope sDecided) .none kV6 dc6 pm6 an6 cd6 ct6), sl6⟩) (c6 : PySem.W.codeIn K cd6 "is_decided" = true) (k6 : PySem.W.keepIn K (.ref f6) = true)
    (a7 : PySem.W.nsIn K mainGlobals "rule_of_orders" = some (some (.ref f7))) (l7 : K.lookup f7 = some ⟨oc7, od7, .func (PySem.W.fnOf "rule_of_orders" "rule_of_orders" (defArgs sRuleOf) (defBody sRuleOf) (defScope sRuleOf) .none kV7 dc7 pm7 an7 cd7 ct7), sl7⟩) (c7 : PySem.W.codeIn K cd7 "rule_of_orders" = true) (k7 : PySem.W.keepIn K (.ref f7) = true)
    (a8 : PySem.W.nsIn K mainGlobals "table_of_order" = some (some (.ref f8))) (l8 : K.lookup f8 = some ⟨oc8, od8, .func (PySem.W.fnOf "table_of_order" "table_of_order" (defArgs sTableOf) (defBody sTableOf) (defScope sTableOf) .none kV8 dc8 pm8 an8 cd8 ct8), sl8⟩) (c8 : PySem.W.codeIn K cd8 "table_of_order" = true) (k8 : PySem.W.keepIn K (.ref f8) = true)
    (a9 : PySem.W.nsIn K mainGlobals "order_at" = some (some (.ref f9))) (l9 : K.lookup f9 = some ⟨oc9, od9, .func (PySem.W.fnOf "order_at" "order_at" (defArgs sOrderAt) (defBody sOrderAt) (defScope sOrderAt) .none kV9 dc9 pm9 an9 cd9 ct9), sl9⟩) (c9 : PySem.W.codeIn K cd9 "order_at" = true) (k9 : PySem.W.keepIn K (.ref f9) = true)
    (a10 : PySem.W.nsIn K mainGlobals "ring_at" = some (some (.ref f10))) (l10 : K.lookup f10 = some ⟨oc10, od10, .func (PySem.W.fnOf "ring_at" "ring_at" (defArgs sRingAt) (defBody sRingAt) (defScope sRingAt) .none kV10 dc10 pm10 an10 cd10 ct10), sl10⟩) (c10 : PySem.W.codeIn K cd10 "ring_at" = true) (k10 : PySem.W.keepIn K (.ref f10) = true)
    (a11 : PySem.W.nsIn K mainGlobals "is_ordered" = some (some (.ref f11))) (l11 : K.lookup f11 = some ⟨oc11, od11, .func (PySem.W.fnOf "is_ordered" "is_ordered" (defArgs sOrdered) (defBody sOrdered) (defScope sOrdered) .none kV11 dc11 pm11 an11 cd11 ct11), sl11⟩) (c11 : PySem.W.codeIn K cd11 "is_ordered" = true) (k11 : PySem.W.keepIn K (.ref f11) = true)
    (a12 : PySem.W.nsIn K mainGlobals "_law_pot" = some (some (.ref f12))) (l12 : K.lookup f12 = some ⟨oc12, od12, .func (PySem.W.fnOf "_law_pot" "_law_pot" (defArgs sPot) (defBody sPot) (defScope sPot) .none kV12 dc12 pm12 an12 cd12 ct12), sl12⟩) (c12 : PySem.W.codeIn K cd12 "_law_pot" = true) (k12 : PySem.W.keepIn K (.ref f12) = true)
    (a13 : PySem.W.nsIn K mainGlobals "_law_take" = some (some (.ref f13))) (l13 : K.lookup f13 = some ⟨oc13, od13, .func (PySem.W.fnOf "_law_take" "_law_take" (defArgs sTake) (defBody sTake) (defScope sTake) .none kV13 dc13 pm13 an13 cd13 ct13), sl13⟩) (c13 : PySem.W.codeIn K cd13 "_law_take" = true) (k13 : PySem.W.keepIn K (.ref f13) = true)
    (a14 : PySem.W.nsIn K mainGlobals "_law_mixed" = some (some (.ref f14))) (l14 : K.lookup f14 = some ⟨oc14, od14, .func (PySem.W.fnOf "_law_mixed" "_law_mixed" (defArgs sMixed) (defBody sMixed) (defScope sMixed) .none kV14 dc14 pm14 an14 cd14 ct14), sl14⟩) (c14 : PySem.W.codeIn K cd14 "_law_mixed" = true) (k14 : PySem.W.keepIn K (.ref f14) = true)
    (a15 : PySem.W.nsIn K mainGlobals "_law_ordered_table" = some (some (.ref f15))) (l15 : K.lookup f15 = some ⟨oc15, od15, .func (PySem.W.fnOf "_law_ordered_table" "_law_ordered_table" (defArgs sOrdTable) (defBody sOrdTable) (defScope sOrdTable) .none kV15 dc15 pm15 an15 cd15 ct15), sl15⟩) (c15 : PySem.W.codeIn K cd15 "_law_ordered_table" = true) (k15 : PySem.W.keepIn K (.ref f15) = true)
    (a16 : PySem.W.nsIn K mainGlobals "_law_right" = some (some (.ref f16))) (l16 : K.lookup f16 = some ⟨oc16, od16, .func (PySem.W.fnOf "_law_right" "_law_right" (defArgs sRight) (defBody sRight) (defScope sRight) .none kV16 dc16 pm16 an16 cd16 ct16), sl16⟩) (c16 : PySem.W.codeIn K cd16 "_law_right" = true) (k16 : PySem.W.keepIn K (.ref f16) = true)
    (a17 : PySem.W.nsIn K mainGlobals "law" = some (some (.ref f17))) (l17 : K.lookup f17 = some ⟨oc17, od17, .func (PySem.W.fnOf "law" "law" (defArgs sLaw) (defBody sLaw) (defScope sLaw) .none kV17 dc17 pm17 an17 cd17 ct17), sl17⟩) (c17 : PySem.W.codeIn K cd17 "law" = true) (k17 : PySem.W.keepIn K (.ref f17) = true)
    {ce : Value} {cdd : Option Addr} {cvs : Array Value} {csl : Array (Option Value)} (cdr : cd9 = .ref c) (lc : K.lookup c = some ⟨ce, cdd, .fields cvs, csl⟩) (l11v : cvs[11]? = some (.ref Pt)) (out : K.lookup Pt = none)
    (z0 : PySem.W.nsIn K mainGlobals "MOST" = some (some (.int 16 tm)))
    (z1 : PySem.W.nsIn K mainGlobals "isinstance" = some none)    (z2 : PySem.W.nsIn K mainGlobals "int" = some none)    (z3 : PySem.W.nsIn K mainGlobals "bool" = some none)    (z4 : PySem.W.nsIn K mainGlobals "tuple" = some none)
    (z5 : PySem.W.nsIn K mainGlobals "len" = some none)    (z6 : PySem.W.nsIn K mainGlobals "all" = some none)    (z7 : PySem.W.nsIn K mainGlobals "any" = some none)    (z8 : PySem.W.nsIn K mainGlobals "abs" = some none)
    (z9 : PySem.W.nsIn K mainGlobals "list" = some none)    (z10 : PySem.W.nsIn K mainGlobals "range" = some none)    (z11 : PySem.W.nsIn K mainGlobals "sorted" = some none)    (z12 : PySem.W.nsIn K mainGlobals "repr" = some none)
    (z13 : PySem.W.nsIn K mainGlobals "max" = some none)    (z14 : PySem.W.nsIn K mainGlobals "min" = some none)    (z15 : PySem.W.nsIn K mainGlobals "zip" = some none) :
    ∃ (cs : List (Addr × Addr)) (fd : FuncData), (∀ p ∈ cs, ∃ y ∈ (["order_at"] : List Str), tabIn K y = some p) ∧ (∀ p ∈ cs, K.lookup p.2 = none) ∧ (∀ (s : Shared) (v : Value), BindsTo s fd ⟨[v], []⟩ [("_law_script", v)]) ∧
      ∀ base : Heap, K.In base → base.Ns mainGlobals mg → (∀ p ∈ cs, TabB base mg p.1 p.2) → FnG l.prog w K mg base 6 fa fd ["_law_script"] (spLaw cs K) := by
  have e := hfa.symm.trans (PySem.W.mg_of X G a17)
  cases e
  have F1 := fun_mk (st := sWithin) l1 c1 k1
  have F2 := fun_mk (st := sRule) l2 c2 k2
  have F3 := fun_mk (st := sSized) l3 c3 k3
  have F4 := fun_mk (st := sTable) l4 c4 k4
  have F5 := fun_mk (st := sAscending) l5 c5 k5
  have F6 := fun_mk (st := sDecided) l6 c6 k6
  have F7 := fun_mk (st := sRuleOf) l7 c7 k7
  have F8 := fun_mk (st := sTableOf) l8 c8 k8
  have F9 := fun_mk (st := sOrderAt) l9 c9 k9
  have F10 := fun_mk (st := sRingAt) l10 c10 k10
  have F11 := fun_mk (st := sOrdered) l11 c11 k11
  have F12 := fun_mk (st := sPot) l12 c12 k12
  have F13 := fun_mk (st := sTake) l13 c13 k13
  have F14 := fun_mk (st := sMixed) l14 c14 k14
  have F15 := fun_mk (st := sOrdTable) l15 c15 k15
  have F16 := fun_mk (st := sRight) l16 c16 k16
  have F17 := fun_mk (st := sLaw) l17 c17 k17
  have b1 := F1.binds (ps := ["value", "low", "high"]) fun _ _ _ _ _ _ us hl => match us, hl with | [_, _, _], _ => rfl
  have b2 := F2.binds (ps := ["value"]) fun _ _ _ _ _ _ us hl => match us, hl with | [_], _ => rfl
  have b3 := F3.binds (ps := ["value"]) fun _ _ _ _ _ _ us hl => match us, hl with | [_], _ => rfl
  have b4 := F4.binds (ps := ["keys", "value"]) fun _ _ _ _ _ _ us hl => match us, hl with | [_, _], _ => rfl
  have b5 := F5.binds (ps := ["keys", "value"]) fun _ _ _ _ _ _ us hl => match us, hl with | [_, _], _ => rfl
  have b6 := F6.binds (ps := ["table", "a", "b"]) fun _ _ _ _ _ _ us hl => match us, hl with | [_, _, _], _ => rfl
  have b7 := F7.binds (ps := ["orders"]) fun _ _ _ _ _ _ us hl => match us, hl with | [_], _ => rfl
  have b8 := F8.binds (ps := ["order"]) fun _ _ _ _ _ _ us hl => match us, hl with | [_], _ => rfl
  have b9 := F9.binds (ps := ["rule", "slot"]) fun _ _ _ _ _ _ us hl => match us, hl with | [_, _], _ => rfl
  have b10 := F10.binds (ps := ["rule", "slot"]) fun _ _ _ _ _ _ us hl => match us, hl with | [_, _], _ => rfl
  have b11 := F11.binds (ps := ["rule"]) fun _ _ _ _ _ _ us hl => match us, hl with | [_], _ => rfl
  have b12 := F12.binds (ps := ["_law_script", "_law_k"]) fun _ _ _ _ _ _ us hl => match us, hl with | [_, _], _ => rfl
  have b13 := F13.binds (ps := ["_law_pot_here", "_law_size"]) fun _ _ _ _ _ _ us hl => match us, hl with | [_, _], _ => rfl
  have b14 := F14.binds (ps := ["_law_pot_here", "_law_some"]) fun _ _ _ _ _ _ us hl => match us, hl with | [_, _], _ => rfl
  have b15 := F15.binds (ps := ["_law_order"]) fun _ _ _ _ _ _ us hl => match us, hl with | [_], _ => rfl
  have b16 := F16.binds (ps := ["_law_pot_here"]) fun _ _ _ _ _ _ us hl => match us, hl with | [_], _ => rfl
  have T : Defs K mg := ⟨⟨_, _, F1, b1, PySem.W.mg_of X G a1⟩, ⟨_, _, F2, b2, PySem.W.mg_of X G a2⟩, ⟨_, _, F3, b3, PySem.W.mg_of X G a3⟩, ⟨_, _, F4, b4, PySem.W.mg_of X G a4⟩, ⟨_, _, F5, b5, PySem.W.mg_of X G a5⟩, ⟨_, _, F6, b6, PySem.W.mg_of X G a6⟩, ⟨_, _, F7, b7, PySem.W.mg_of X G a7⟩, ⟨_, _, F8, b8, PySem.W.mg_of X G a8⟩, ⟨_, _, F9, b9, PySem.W.mg_of X G a9⟩, ⟨_, _, F10, b10, PySem.W.mg_of X G a10⟩, ⟨_, _, F11, b11, PySem.W.mg_of X G a11⟩, ⟨_, _, F12, b12, PySem.W.mg_of X G a12⟩, ⟨_, _, F13, b13, PySem.W.mg_of X G a13⟩, ⟨_, _, F14, b14, PySem.W.mg_of X G a14⟩, ⟨_, _, F15, b15, PySem.W.mg_of X G a15⟩, ⟨_, _, F16, b16, PySem.W.mg_of X G a16⟩, ⟨_, PySem.W.mg_of X G z0⟩, PySem.W.mg_none_of X G z1, PySem.W.mg_none_of X G z2, PySem.W.mg_none_of X G z3, PySem.W.mg_none_of X G z4, PySem.W.mg_none_of X G z5, PySem.W.mg_none_of X G z6, PySem.W.mg_none_of X G z7, PySem.W.mg_none_of X G z8, PySem.W.mg_none_of X G z9, PySem.W.mg_none_of X G z10, PySem.W.mg_none_of X G z11, PySem.W.mg_none_of X G z12, PySem.W.mg_none_of X G z13, PySem.W.mg_none_of X G z14, PySem.W.mg_none_of X G z15⟩
  have tin : tabIn K "order_at" = some (c, Pt) := by
    unfold tabIn
    simp only [a9, l9, cdr, lc, l11v]
  have LA : LamAt K mg c := ⟨_, _, F9, b9, PySem.W.mg_of X G a9, cdr⟩
  refine ⟨[(c, Pt)], _, fun p hp => ?_, fun p hp => ?_, fun s v => .of_eq rfl, fun base _ _ tb => ok_law F17 T LA (tb (c, Pt) List.mem_cons_self)⟩
  · rw [List.mem_singleton.mp hp]
    exact ⟨_, List.mem_cons_self, tin⟩
  · rw [List.mem_singleton.mp hp]
    exact out
end SL

open PySem PySem.W PyProof.Rows
set_option maxHeartbeats 0 in
theorem PySem.Challenge.cw_samelayout_k05_rules_of_orders_holds : PySem.Challenge.rw_samelayout_k05_rules_of_orders.Holds := by
  w_on; o_law; k_head; (case hw => w_witness2)
  k_fill
  refine SL.walkGT (l := PySem.Challenge.rw_samelayout_k05_rules_of_orders) (n := 63) (k := 6) (x := "_law_script") (sp := SL.spLaw) ["order_at"] rfl (by decide) rfl ⟨rfl, by decide, by decide⟩ (fun w h Y => PySem.W.km_in_of Y) (fun y hy => by rw [List.mem_singleton.mp hy]; decide +kernel) ?F (fun cs K H a ns hl em hS => ⟨a, ns, rfl, hS, hl, em, fun _ => rfl⟩)
  case F =>
    intro w mg fa h KX G hmg
    refine' SL.all_mk KX G hmg ?a1 ?l1 ?c1 ?k1 ?a2 ?l2 ?c2 ?k2 ?a3 ?l3 ?c3 ?k3 ?a4 ?l4 ?c4 ?k4 ?a5 ?l5 ?c5 ?k5 ?a6 ?l6 ?c6 ?k6 ?a7 ?l7 ?c7 ?k7 ?a8 ?l8 ?c8 ?k8 ?a9 ?l9 ?c9 ?k9 ?a10 ?l10 ?c10 ?k10 ?a11 ?l11 ?c11 ?k11 ?a12 ?l12 ?c12 ?k12 ?a13 ?l13 ?c13 ?k13 ?a14 ?l14 ?c14 ?k14 ?a15 ?l15 ?c15 ?k15 ?a16 ?l16 ?c16 ?k16 ?a17 ?l17 ?c17 ?k17 ?cdr ?lc ?l11v ?out ?z0 ?z1 ?z2 ?z3 ?z4 ?z5 ?z6 ?z7 ?z8 ?z9 ?z10 ?z11 ?z12 ?z13 ?z14 ?z15
    (case a1 => k_is); (case l1 => k_is); (case c1 => k_is); (case k1 => k_is)
    (case a2 => k_is); (case l2 => k_is); (case c2 => k_is); (case k2 => k_is)
    (case a3 => k_is); (case l3 => k_is); (case c3 => k_is); (case k3 => k_is)
    (case a4 => k_is); (case l4 => k_is); (case c4 => k_is); (case k4 => k_is)
    (case a5 => k_is); (case l5 => k_is); (case c5 => k_is); (case k5 => k_is)
    (case a6 => k_is); (case l6 => k_is); (case c6 => k_is); (case k6 => k_is)
    (case a7 => k_is); (case l7 => k_is); (case c7 => k_is); (case k7 => k_is)
    (case a8 => k_is); (case l8 => k_is); (case c8 => k_is); (case k8 => k_is)
    (case a9 => k_is); (case l9 => k_is); (case c9 => k_is); (case k9 => k_is)
    (case a10 => k_is); (case l10 => k_is); (case c10 => k_is); (case k10 => k_is)
    (case a11 => k_is); (case l11 => k_is); (case c11 => k_is); (case k11 => k_is)
    (case a12 => k_is); (case l12 => k_is); (case c12 => k_is); (case k12 => k_is)
    (case a13 => k_is); (case l13 => k_is); (case c13 => k_is); (case k13 => k_is)
    (case a14 => k_is); (case l14 => k_is); (case c14 => k_is); (case k14 => k_is)
    (case a15 => k_is); (case l15 => k_is); (case c15 => k_is); (case k15 => k_is)
    (case a16 => k_is); (case l16 => k_is); (case c16 => k_is); (case k16 => k_is)
    (case a17 => k_is); (case l17 => k_is); (case c17 => k_is); (case k17 => k_is)
    (case cdr => first | rfl | k_is); (case lc => k_is); (case l11v => first | rfl | k_is); (case out => first | rfl | k_is)
    (case z0 => k_is); (case z1 => k_is); (case z2 => k_is); (case z3 => k_is); (case z4 => k_is); (case z5 => k_is); (case z6 => k_is); (case z7 => k_is); (case z8 => k_is); (case z9 => k_is); (case z10 => k_is); (case z11 => k_is); (case z12 => k_is); (case z13 => k_is); (case z14 => k_is); (case z15 => k_is)
