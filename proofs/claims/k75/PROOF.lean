import PyProof.Rows.All
import Wide.All
import OpenK.AllK
import Wide.FinOn
import HandS.ForMost
import HandS.IsInst
import HandS.Conv
import HandS.SetFor
import HandS.SortInts
import HandS.TupAny
import HandS.Wide
import HandS.Style
import HandS.RaiseMore
import HandS.ExcValue
import KE.SortKeyHeap
import HandS.Lambda
import HandS.EndTab
import HandS.TupMul
import HandS.Flow
import HandS.Strs
import PyProof.ReprLen
import HandS.TryOnly
import HandS.Zip
import KE.GoesMore
import KE.DataMinMax
import HandS.SortKw
import HandS.Deep
import HandS.More
import HandS.DeepEq
import PyProof.SumAny
import PyProof.ListOps
import KE.KDictZip
import PyProof.CollectIter
import HandS.ExcInit
import HandS.ExcField
import HandS.ExcIs
import HandS.Small
import HandS.WordsExc
import KE.KExcIs
import KE.GoesEnumKw
import KE.DataMinKey
import PyProof.WalkInts
import PySem.Challenge.RW_samelayout_k75_whole_what_is_never_asked
set_option Elab.async false
set_option linter.all false
set_option maxRecDepth 100000
namespace SL
open PySem PySem.Spec PyProof.Rows L2
structure FnG (P : Program) (w : World) (K : PySem.W.Frag) (mg : Str → Option Value) (base : Heap) (k : Nat) (f : Addr)
    (fd : FuncData) (ps : List Str) (sp : Sp) : Prop where
  size : ∀ vs H Q E, sp vs H Q E → vs.length = ps.length
  go : ∀ (A : Around) (outer : List Env) (s : Shared) (H : Hp) (args : Args) (us : List Value) (vs : List V) (Q : VK) (E : XK),
    A.guards = some [] → Room k A → Env0 P w K mg base A outer s H → BindsTo s fd args (ps.zip us) → Vals vs us →
    sp vs H Q E → codeAny (model P w) A (.call (.ref f) args) (CR CX0 outer P w H s Q E) s

section
variable {P : Program} {w : World} {K : PySem.W.Frag} {mg : Str → Option Value} {base : Heap}
theorem fnG_mk {x qual : Str} {st : Stmt} {f : Addr} {fd : FuncData} {N ps : List Str} {k : Nat} {sp : Sp}
    (F : Fun K x qual st f fd) (sc : FnScope N ps (defScope st)) (size : ∀ vs H Q E, sp vs H Q E → vs.length = ps.length)
    (body : ∀ (cdv : Value) (A : Around) (outer : List Env) (s : Shared) (H : Hp) (vs : List V) (Q : VK) (E : XK),
      A.guards = some [] → Room k (A.deeper (envOfC qual (defScope st) s.heap.objs.size f cdv)) → sp vs H Q E →
      ∃ t, PSs (cxOf CX0 P w K mg base N qual (defScope st) f cdv A outer s H E).nox (defBody st) t ∧
        t { nx := fun _ H' => Q .non H', rt := Q } (start N vs) H) : FnG P w K mg base (k + 1) f fd ps sp := by
  obtain ⟨oc, od, kV, doc, pm, an, cdv, ct, osl, rfl, look, code⟩ := F.ex
  constructor
  · exact size
  · intro A outer s H args us vs Q E hgd room env bound rel prom
    have many := size _ _ _ _ prom
    have inK : K.In s.heap := env.mod.kin.keeps fun b o q => (env.bs b o q).1
    have free : s.heap.NoLimit := env.mod.nolimit.keeps fun b o q => (env.bs b o q).1
    refine codeAny_call_function room.depth (inK _ _ look) rfl sc.co sc.gen rfl (PySem.W.codeRec_of inK code)
      (bound _ _ _ _ ?_)
    refine wpAny_newFunctionEnv_cells sc.kind ?kinds fun env' same s1 fresh => ?_
    case kinds =>
      rintro ⟨n, v⟩ here
      rcases sc.par n (List.of_mem_zip here).1 with q | q
      · exact Or.inl q
      · exact Or.inr ⟨q, PySem.W.cellsFrom_some _ _ _ (Or.inl q)⟩
    subst same
    refine ⟨free.keeps fresh.toInCall.keep, codeAny_func ?_⟩
    obtain ⟨t, der, reading⟩ := body cdv A outer s H vs Q E hgd (room.deeper _) prom
    have I := inv_start (CX := CX0) (E := E) sc room.hd env many rel fresh
    refine wpAny_mono (der.nox.run [] s1 (start N vs) H _ I reading) (fun fl s' e => ?_) fun _ _ e => e
    cases fl with
    | ret u => obtain ⟨v, σ', H', J, r', q⟩ := e; exact ⟨v, H', J.os, J.bare, J.base, J.hok, r', q⟩
    | next => obtain ⟨σ', H', J, q⟩ := e; exact ⟨.non, H', J.os, J.bare, J.base, J.hok, rfl, q⟩
    | brk => obtain ⟨_, _, _, q⟩ := e; exact False.elim q
    | cont => obtain ⟨_, _, _, q⟩ := e; exact False.elim q

theorem pe_callG {X : Cx} {k : Nat} {f : Addr} {fd : FuncData} {ps : List Str} {sp : Sp} {x : Str} {p pos : Pos} {e : Expr} {es : List Expr} {t : TA}
    (F : FnG X.prog X.w X.K X.mg X.base k f fd ps sp) (gd : X.A.guards = some []) (room : Room k X.A) (gl : Gl X x)
    (at_ : X.mg x = some (.ref f)) (keep : PySem.W.keepIn X.K (.ref f) = true) (bd : Binds X.K fd ps []) (args : PA X (e :: es) t)
    (h1 : (x == ("__debug__" : Str)) = false := by decide)
    (h2 : starEach (e :: es) X.env = (false, eval e X.env) :: starEach es X.env := by rfl)
    (h3 : (backTo pos (starEach es X.env)).any (·.1) = false := by rfl) :
    PE X (.Call (.Name x p) (e :: es) [] pos) (tCall sp [] E0 t) := by
  constructor
  intro pins s σ H Q I h
  refine wpAny_Call_Name_kw (ld_glob I gl at_ ?_ h1)
  refine PySem.W.callWith_K (h₀ := X.base) I.ok.mod.kin keep (thn (args.run pos pins s σ H _ I h) ?_) h2 h3
  rintro us s1 ⟨vs, H1, I1, rel, q⟩
  refine ⟨I1.kIn, ?_⟩
  have q' : sp vs H1 Q E0 := by have z := q; rw [List.append_nil] at z; exact z
  have long : us.length = ps.length := by rw [← rel.length]; exact F.size _ _ _ _ q'
  have bd' := bd s1 us I1.kIn (by rw [List.append_nil]; exact long)
  rw [List.append_nil] at bd'
  refine wpAny_call (codeAny_mono (F.go X.A X.stack s1 H1 ⟨us, []⟩ us vs Q E0 gd room I1.env0 bd' rel q') fun r s' here => ?_)
  cases r with
  | error _ => exact False.elim here
  | ok fl => cases fl with
    | ret _ => exact I1.after here
    | next => exact False.elim here
    | brk => exact False.elim here
    | cont => exact False.elim here
end
end SL
namespace SL
open PySem PySem.Spec PyProof.Rows L2
theorem op_powB {X : Cx} : OpR X (binaryOp .Pow) (rI (fun i j => 0 ≤ j ∧ (Builtin.Int.intBits i : Int) * j ≤ 2 ^ 27) fun i j => .int (i ^ j.toNat)) :=
  opI fun _ _ _ _ _ _ _ c q => pow_int c.1 c.2 q

theorem objGet {P : Program} {w : World} {H : Hp} {h : Heap} {a : Addr} {o : HO} (x : ObjOk P w H h a o) : ∃ u, h.get? a = some u := by
  cases o with
  | lst xs => obtain ⟨_, _, _, _, e⟩ := x; exact ⟨_, e⟩
  | tup xs => obtain ⟨_, _, _, _, e, _⟩ := x; exact ⟨_, e⟩
  | dK kvs => obtain ⟨_, _, _, _, _, _, _, e, _⟩ := x; exact ⟨_, e⟩
  | dT kvs => obtain ⟨_, _, _, _, _, _, _, e, _⟩ := x; exact ⟨_, e⟩
  | set S n => obtain ⟨_, _, _, _, e, _⟩ := x; exact ⟨_, e⟩
  | ins C dx fs => obtain ⟨_, _, _, e, _⟩ := x; exact ⟨_, e⟩
  | own y => exact x
  | xd fs => obtain ⟨_, ⟨_, _, _, e, _⟩, _⟩ := x; exact ⟨_, e⟩
  | rng lo hi => obtain ⟨_, _, _, e⟩ := x; exact ⟨_, e⟩
  | frz ob u => obtain ⟨e, _⟩ := x; exact ⟨_, e⟩
  | tbl ps => exact ⟨_, x⟩
  | met f y => exact ⟨_, x⟩
  | ext φ => obtain ⟨_, e, _⟩ := x; exact e

def rSortT (K : PySem.W.Frag) : List V → Hp → VK → Prop := fun vs H Q => ∃ (a : Addr) (ns : List Int), vs = [V.ref a] ∧ SqT K H a (ns.map V.int) ∧
  ∀ (out : List Int) (p : Addr), out.Perm ns → out.Pairwise (· ≤ ·) → H p = none → Q (.ref p) (upd H p (.lst (out.map V.int)))
theorem cr_sortT {X : Cx} : CallR X (.builtin "sorted") (rSortT X.K) := by
  intro pins s σ H vs us Q I r h
  obtain ⟨a, ns, rfl, hs, q⟩ := h
  obtain ⟨its, rv, ht, hz⟩ := I.tuple hs
  obtain ⟨o, ho, hc, n, hd⟩ := id ht
  rw [Vals.ref1 r]
  have nums := rv.ints
  have hz' : its.length ≤ sizeLine := by rw [← rv.length]; exact hz
  refine Calls.call_function_entry kind_sorted plain_sorted entry_sorted (args_sorted1 _) ?_
  unfold Builtin.«sorted»
  refine wpAny_bind (m := checkCount "sorted" 1 1 _) (wpAny_pure ?_)
  refine wpAny_bind (wpAny_collect_seq a (Or.inr rfl) ho hc hd (fun h1 kept => ?_) (by simpa using hz'))
  refine wpAny_bind (wpAny_newList ?_ (by simpa using hz'))
  have hoL : (h1.push (seqObj "list" its.toArray 0)).get? h1.objs.size = some (seqObj "list" its.toArray 0) := Heap.get?_push_size _ rfl
  have new1 : s.heap.get? h1.objs.size = none := by
    cases q : s.heap.get? h1.objs.size with
    | none => rfl
    | some o => exact absurd (Heap.lt_size (kept _ _ q)) (Nat.lt_irrefl _)
  have new2 : H h1.objs.size = none := by
    cases q : H h1.objs.size with
    | none => rfl
    | some u =>
      obtain ⟨o, z⟩ := objGet (I.hok _ _ q)
      rw [new1] at z
      cases z
  show wpAny _ _ _ _ _ { s with heap := h1.push (seqObj "list" its.toArray 0) }
  refine wpAny_bind (wpAny_holding (wpAny_call_entry slot_list_sort ⟨_, hoL, rfl⟩ entry_list_sort
    (SrtO.list_sort_ord SrtO.swo_int hoL hz' (fun h2 => SrtO.ints_sortable nums h2) fun out hs hb => ⟨_, rfl, ?_⟩) (args_list_sort _)))
  refine wpAny_pure ⟨_, rfl, ?_⟩
  obtain ⟨k1, k2, k3⟩ := SrtO.ints_out nums hs hb
  obtain ⟨ep, he⟩ := sortedHeap_at (vs := its) (out := out.toArray) hoL
  have len : ((out.map SrtO.iv).map V.int).length ≤ sizeLine := by
    rw [List.length_map, k2.length_eq]
    rw [List.length_map] at hz
    exact hz
  refine ⟨.ref h1.objs.size, upd H h1.objs.size (.lst ((out.map SrtO.iv).map V.int)), I.laidN (t' := s.toks) ?_ new1 new2 ⟨len, out, ep, vals_of_ints k1, he⟩, rfl, q _ _ k2 k3 new2⟩
  intro b u hu
  have lt : b < h1.objs.size := Heap.lt_size (kept _ _ hu)
  have lt2 : b < (h1.push (seqObj "list" its.toArray 0)).objs.size := by rw [Heap.size_push]; exact Nat.lt_succ_of_lt lt
  rw [sortedHeap_old (Nat.ne_of_lt lt) lt2]
  exact Heap.get?_push_of_some _ (kept _ _ hu)

theorem adjustBack (n : Nat) : Builtin.Slice.sliceAdjust none none (-1) (n : Int) = ((n : Int) - 1, -1) := by
  unfold Builtin.Slice.sliceAdjust
  simp
theorem placesBack (n : Nat) : Builtin.Slice.slicePlaces ((n : Int) - 1) (-1) (-1) = n := by
  unfold Builtin.Slice.slicePlaces
  simp
  omega
theorem pickBack (xs : Array Value) : ((List.range xs.size).filterMap fun (m : Nat) => xs[(((xs.size : Int) - 1) + (m : Int) * (-1)).toNat]?).toArray = xs.toList.reverse.toArray := by
  have e : ((List.range xs.size).filterMap fun (m : Nat) => xs[(((xs.size : Int) - 1) + (m : Int) * (-1)).toNat]?) = ((List.range xs.size).map fun k => xs.size - 1 - k).filterMap (xs[·]?) := by
    rw [List.filterMap_map]
    have all : ∀ l : List Nat, (∀ m ∈ l, m < xs.size) → (l.filterMap fun (m : Nat) => xs[(((xs.size : Int) - 1) + (m : Int) * (-1)).toNat]?) = l.filterMap ((fun x => xs[x]?) ∘ fun k => xs.size - 1 - k) := by
      intro l
      induction l with
      | nil => intro _; rfl
      | cons m r ih =>
        intro hl
        have z : (((xs.size : Int) - 1) + (m : Int) * (-1)).toNat = xs.size - 1 - m := by
          have := hl m List.mem_cons_self
          omega
        rw [List.filterMap_cons, List.filterMap_cons, z, ih fun n hn => hl n (List.mem_cons_of_mem _ hn)]
        rfl
    exact all _ fun m hm => List.mem_range.mp hm
  rw [e, PySem.W.krv_range, List.filterMap_reverse, PySem.W.krv_all]
end SL
namespace SL
open PySem PySem.Spec PyProof.Rows L2 PySem.W PySem.Calls
def But2 (x y : Addr) (h g : Heap) : Prop := ∀ c ob, c ≠ x → c ≠ y → h.get? c = some ob → g.get? c = some ob
section
variable {P : Program} {w : World} {A : Around} {E : Value → Shared → Prop} {s : Shared} {a : Addr} {f : Value} {n : Nat} {vs : List Value} {kz : List PyData} {Q : PySem.Fin → Shared → Prop}
structure KeySt (P : Program) (w : World) (A : Around) (s : Shared) (a : Addr) (f : Value) (vs : List Value) (kz : List PyData) (Z : Addr → List Value → Shared → Prop) : Prop where
  first : ∀ (y : Addr) (g : Heap), s.heap.objs.size ≤ y → y ≠ a → (∀ c ob, c ≠ a → s.heap.get? c = some ob → g.get? c = some ob) → Z y [] { s with heap := g }
  other : ∀ (y : Addr) (ks : List Value) (s1 : Shared) (g : Heap), Z y ks s1 → But2 a y s1.heap g → Z y ks { s1 with heap := g }
  turn : ∀ (y : Addr) (ks : List Value) (s1 : Shared) (v : Value) (oa oy : Obj), vs[ks.length]? = some v → Z y ks s1 → s1.heap.get? a = some oa → s1.heap.get? y = some oy →
    wpAny (model P w) A (call f [v]) (fun u s2 => Z y (ks ++ [u]) s2 ∧ s2.heap.get? a = some oa ∧ s2.heap.get? y = some oy) (fun _ _ => False) s1
  made : ∀ (y : Addr) (ks : List Value) (s1 : Shared), Z y ks s1 → ks.length = vs.length → EachIs (fun v d => ∃ as, Reads s1.heap v d as) ks kz
theorem sort_made {Z : Addr → List Value → Shared → Prop} (T : KeySt P w A s a f vs kz Z) (ho : s.heap.get? a = some (seqObj "list" vs.toArray n)) (few : vs.length ≤ sizeLine) (al : AllAlike kz) (so : Sortable kz) (un : ∀ d, d ∈ kz → A.units + d.depth < cLine)
    (fin : ∀ (y : Addr) (ks : List Value) (s1 : Shared) (g : Heap) (out : List Value) (tk c : Nat), Z y ks s1 → But2 a y s1.heap g → g.get? a = some (seqObj "list" out.toArray c) → KeyedOut false kz vs out → Q (.done (.ret .none)) { s1 with heap := g, toks := tk }) :
    wpAny (model P w) A (ksk_tree a f false) Q E s := by
  have la := Heap.lt_size ho
  obtain ⟨e1, na⟩ : ∃ e1, (s.heap.update a (Obj.mapSeq fun _ => (#[] : Array Value))).get? a = some (seqObj "list" #[] e1) := ⟨_, get?_update_seq ho fun _ => #[]⟩
  have sb := Heap.SameBut.update s.heap a (Obj.mapSeq fun _ => (#[] : Array Value))
  unfold ksk_tree
  refine wpAny_bind (listItems_at ho rfl (wpAny_bind (listUpdate_at ho rfl ?_ (by rw [List.size_toArray]; exact few) (Nat.zero_le _))))
  refine wpAny_bind (seqEpoch_at na rfl (wpAny_bind (wpAny_newTuple (wpAny_bind (wpAny_newList (wpAny_holding ?_) (Nat.zero_le _))) (by show vs.length ≤ _; exact few))))
  generalize ey : (Heap.push (Heap.update s.heap a (Obj.mapSeq fun _ => (#[] : Array Value))) { cls := .type "tuple", data := .seq vs.toArray.toList.toArray }).objs.size = y
  have ysz : y = s.heap.objs.size + 1 := by rw [← ey, size_push', Heap.size_update]
  have ya : y ≠ a := Nat.ne_of_gt (by rw [ysz]; exact Nat.lt_succ_of_lt la)
  have z0 : Z y [] { s with heap := ((Heap.update s.heap a (Obj.mapSeq fun _ => (#[] : Array Value))).push { cls := .type "tuple", data := .seq vs.toArray.toList.toArray }).push { cls := .type "list", data := .seq ([] : List Value).toArray } } :=
    T.first y _ (by omega) ya fun c ob nc e => Heap.get?_push_of_some _ (Heap.get?_push_of_some _ ((sb.2 c nc).trans e))
  have y0 : (((Heap.update s.heap a (Obj.mapSeq fun _ => (#[] : Array Value))).push { cls := .type "tuple", data := .seq vs.toArray.toList.toArray }).push { cls := .type "list", data := .seq ([] : List Value).toArray }).get? y = some (seqObj "list" #[] 0) := by
    rw [← ey]
    exact Heap.get?_push_size _ rfl
  have a0 : (((Heap.update s.heap a (Obj.mapSeq fun _ => (#[] : Array Value))).push { cls := .type "tuple", data := .seq vs.toArray.toList.toArray }).push { cls := .type "list", data := .seq ([] : List Value).toArray }).get? a = some (seqObj "list" #[] e1) :=
    Heap.get?_push_of_some _ (Heap.get?_push_of_some _ na)
  generalize ((Heap.update s.heap a (Obj.mapSeq fun _ => (#[] : Array Value))).push { cls := .type "tuple", data := .seq vs.toArray.toList.toArray }).push { cls := .type "list", data := .seq ([] : List Value).toArray } = g0 at z0 y0 a0 ⊢
  unfold ksk_rest
  refine wpAny_bind (wpAny_rule ?_)
  rw [← Array.forIn_toList]
  refine wpAny_bind (ksk_fold (fun i s1 => ∃ (ks : List Value) (e : Nat), ks.length = i ∧ Z y ks s1 ∧ s1.heap.get? y = some (seqObj "list" ks.toArray e) ∧ s1.heap.get? a = some (seqObj "list" #[] e1)) vs.toArray.toList 0 _ ⟨[], 0, rfl, z0, y0, a0⟩ ?_ ?_)
  · rintro j x s1 hx ⟨ks, e, lk, z, hy, ha⟩
    rw [List.toList_toArray] at hx
    have lj := (List.getElem?_eq_some_iff.mp hx).1
    have lk' : ks.length = j := by omega
    refine wpAny_bind (wpAny_attempt (wpAny_mono (T.turn y ks s1 x _ _ (by rw [lk']; exact hx) z ha hy) (fun u s2 h => ?_) fun _ _ h => h.elim))
    obtain ⟨z2, ha2, hy2⟩ := h
    try dsimp only
    have sy := Heap.SameBut.update s2.heap y (Obj.mapSeq (·.push u))
    have few2 : ks.toArray.size ≤ sizeLine := by rw [List.size_toArray]; omega
    refine wpAny_bind (listUpdate_at hy2 rfl ?_ few2 (by rw [Array.size_push]; omega))
    have new := get?_update_seq hy2 (·.push u)
    have ep : ks.toArray.push u = (ks ++ [u]).toArray := by simp
    rw [ep] at new
    exact wpAny_pure ⟨rfl, ks ++ [u], _, by rw [List.length_append, lk]; rfl, T.other y _ s2 _ z2 fun c ob _ ny e => (sy.2 c ny).trans e, new, (sy.2 a ya.symm).trans ha2⟩
  · rintro s1 ⟨ks, e, lk, z, hy, ha⟩
    rw [List.toList_toArray, Nat.zero_add] at lk
    have each := T.made y ks s1 z lk
    try dsimp only
    refine wpAny_bind (listItems_at hy rfl ?_)
    have hid : (hideAll s1.heap [y]).get? y = none := hideAll_none _ (by simp)
    have kb : KeepsBut a (hideAll s1.heap [y]) s1.heap := fun c ob _ q => of_hideAll [y] q
    have so2 : SortsAt P w A s1 (dataKind s1.heap kz) ks.toArray.toList := by
      rw [List.toList_toArray]
      exact SortsAt.data each al so un
    refine keyH_end (vs := vs) kb hid hy ha ya so2 (by rw [List.size_toArray]; exact lk) few fun g tk c k3 n3 => ?_
    refine fin y ks s1 g _ tk c z (fun c' ob n1 n2 q => k3 c' ob n1 (hideAll_get _ q (by simpa using n2))) n3 ⟨s1.heap, ks.toArray.toList, al, rfl, ?_⟩
    rw [List.toList_toArray]
    exact each
end
section
variable {P : Program} {w : World} {A : Around} {E : Value → Shared → Prop} {s : Shared} {r fa : Addr} {hi : Int} {t u v : Tok} {m : Nat} {Q : Value → Shared → Prop} {kz : List PyData}
end
end SL
namespace SL
open PySem PySem.Spec PyProof.Rows L2 LamX
structure LamP (sc scope : Scope) (x : Str) : Prop where
  kind : scope.kind = .function
  co : scope.isCoroutine = false
  gen : scope.isGenerator = false
  mine : scope.names.lookup x = some .local
  only : ∀ y ∈ scope.names, y.2 ≠ .cell ∧ (y.2 = .local → y.1 = x)
  from_ : ∀ y ∈ scope.names, y.2 = .free → sc.names.lookup y.1 = some .cell ∨ sc.names.lookup y.1 = some .free
def lamPB (sc scope : Scope) (x : Str) : Bool :=
  decide (scope.kind = .function) && !scope.isCoroutine && !scope.isGenerator && decide (scope.names.lookup x = some .local) &&
    scope.names.all fun y => !decide (y.2 = .cell) && (!decide (y.2 = .local) || decide (y.1 = x)) && (!decide (y.2 = .free) || decide (sc.names.lookup y.1 = some .cell) || decide (sc.names.lookup y.1 = some .free))
theorem lamP_by {sc scope : Scope} {x : Str} (h : lamPB sc scope x = true) : LamP sc scope x := by
  unfold lamPB at h
  simp only [Bool.and_eq_true, Bool.or_eq_true, Bool.not_eq_true', decide_eq_true_eq, decide_eq_false_iff_not, List.all_eq_true] at h
  obtain ⟨⟨⟨⟨h1, h2⟩, h3⟩, h4⟩, h5⟩ := h
  refine ⟨h1, h2, h3, h4, fun y hy => ⟨(h5 y hy).1.1, fun e => ?_⟩, fun y hy e => ?_⟩
  · rcases (h5 y hy).1.2 with z | z
    · exact absurd e z
    · exact z
  · rcases (h5 y hy).2 with (z | z) | z
    · exact absurd e z
    · exact Or.inl z
    · exact Or.inr z
def cxP (X : Cx) (A : Around) (s : Shared) (H : Hp) (scope : Scope) (x : Str) (f c' : Addr) : Cx :=
  { lamCx X A X.stack s H (fun _ _ _ => False) scope f c' with N := X.N ++ [x], xe := fun _ _ => False }
section
variable {X : Cx} {pins : List (Addr × Obj)} {σ : L2.St} {H : Hp} {s : Shared}
theorem LamP.has {scope : Scope} {x : Str} (L : LamP X.env.scope scope x) (ok : X.Ok) : ∀ y ∈ scope.names, y.2 = .free → ∃ c, X.env.cells.lookup y.1 = some c := fun y hy e => ok.has _ (L.from_ y hy e)
theorem startP {A : Around} {scope : Scope} {x : Str} {f c' : Addr} {g : Heap} {tk : Nat} {v : V} {u : Value} (I : Inv X pins σ H s) (L : LamP X.env.scope scope x) (nx : x ∉ X.N) (e0 : Env0 X.prog X.w X.K X.mg X.base A X.stack s H) (hd : A.handled = none)
    (rv : RelV v u) (hns : g.Ns s.heap.objs.size fun y => [(x, u)].reverse.lookup y) (kp : ∀ b o, s.heap.get? b = some o → g.get? b = some o) : Inv (cxP X A s H scope x f c') [] (σ ++ [some v]) H { s with heap := g, toks := tk } := by
  have full := L.has I.ok
  have back : ∀ {y c}, (cloFrom X.env.cells scope.names []).lookup y = some c → X.env.cells.lookup y = some c := by
    intro y c e
    rcases cloFrom_mem (PySem.mem_of_lookup e) with m | ⟨m, e2⟩
    · cases m
    · obtain ⟨d, hd⟩ := full _ m rfl
      have hd' : X.env.cells.lookup y = some d := hd
      rw [hd'] at e2
      rw [hd', e2]
      rfl
  have cellK : ∀ {c : Addr} {z : Option Value}, s.heap.IsCell c z → g.IsCell c z := by
    rintro c z ⟨o, ho, e⟩
    exact ⟨o, kp _ _ ho, e⟩
  have noE : ∀ b : Addr, b ∉ (cxP X A s H scope x f c').ex := fun b z => by cases (show b ∈ ([] : List Addr) from z)
  have lenN := I.len
  refine ⟨⟨e0.mod, L.kind, rfl, rfl, Nat.le_refl _, fun y z c p q => I.ok.inj y z c (back p) (back q), ?_, ?_, fun _ => hd, Around.frames_deeper e0.1, Or.inr ⟨rfl, rfl⟩,
      fun b z => absurd z (noE b), e0.bs, e0.bsz, fun b _ _ => noE b, fun b z => absurd z (noE b), e0.funs, e0.frf⟩, rfl, e0.bare, Un.kept kp, ⟨_, hns, ?_⟩, ?_, e0.hok.fresh (Nat.le_refl _), ?_, ?_, e0.hok.kept kp, ?_⟩
  · intro y hy
    have hy : scope.names.lookup y = some .cell ∨ scope.names.lookup y = some .free := hy
    rcases hy with hy | hy
    · exact absurd rfl (L.only _ (PySem.mem_of_lookup hy)).1
    · exact mem_lookup (cloFrom_has (cells := X.env.cells) (acc := []) (PySem.mem_of_lookup hy))
  · intro y c z
    cases (show false = true from z)
  · intro i y w' e1 e2 vis
    have e1 : (X.N ++ [x])[i]? = some y := e1
    have vis : Vis scope y := vis
    rcases Nat.lt_or_ge i X.N.length with li | ge
    · rw [List.getElem?_append_left li] at e1
      rw [List.getElem?_append_left (by omega)] at e2
      have ny : y ≠ x := fun z => nx (by rw [← z]; exact List.mem_of_getElem? e1)
      rcases vis with k | k | k
      · exact absurd ((L.only _ (PySem.mem_of_lookup k)).2 rfl) ny
      · exact absurd rfl (L.only _ (PySem.mem_of_lookup k)).1
      · obtain ⟨m, hn, hl⟩ := I.loc
        have see : Vis X.env.scope y := by
          rcases L.from_ _ (PySem.mem_of_lookup k) rfl with z | z
          · exact Or.inr (Or.inl z)
          · exact Or.inr (Or.inr z)
        obtain ⟨u', r, q⟩ := hl i y w' e1 e2 see
        obtain ⟨c2, h2⟩ := mem_lookup (cloFrom_has (cells := X.env.cells) (acc := []) (PySem.mem_of_lookup k))
        refine ⟨u', r, Or.inr ⟨Or.inr k, c2, h2, ?_⟩⟩
        have c1 := back h2
        rcases q with ⟨k', _⟩ | ⟨_, c3, e', z⟩
        · have k' : X.env.scope.names.lookup y = some .local := k'
          rcases L.from_ _ (PySem.mem_of_lookup k) rfl with k2 | k2 <;> rw [show X.env.scope.names.lookup y = _ from k2] at k' <;> cases k'
        · rw [c1] at e'
          cases e'
          exact cellK z
    · have hi : i = X.N.length := by
        have z := (List.getElem?_eq_some_iff.mp e1).1
        rw [List.length_append, List.length_singleton] at z
        omega
      subst hi
      rw [List.getElem?_append_right (Nat.le_refl _), Nat.sub_self] at e1
      rw [List.getElem?_append_right (by omega), show X.N.length - σ.length = 0 by omega] at e2
      cases e1
      cases e2
      exact ⟨u, rv, Or.inl ⟨L.mine, by simp⟩⟩
  · intro y c e
    obtain ⟨z, q⟩ := I.cell y c (back e)
    exact ⟨z, cellK q⟩
  · intro y c e
    exact I.freeC y c (back e)
  · intro p hp
    cases (show p ∈ ([] : List (Addr × Obj)) ++ [] from hp)
  · show (σ ++ [some v]).length = (X.N ++ [x]).length
    rw [List.length_append, List.length_append, lenN]
    rfl
theorem callP {params : Arguments} {body : Expr} {scope : Scope} {x : Str} {f c' : Addr} {pm ctv : Value} {k : Nat} {tb : TE} {v : V} {u : Value} {Q : VK} (I : Inv X pins σ H s) (L : LamP X.env.scope scope x) (nx : x ∉ X.N)
    (hf : s.heap.get? f = some (PySem.W.kla_obj "<lambda>" (X.env.qual ++ "<lambda>") params body scope (cloFrom X.env.cells scope.names []) pm c' ctv)) (hco : H c' = some (CodeO c' (X.env.qual ++ "<lambda>")))
    (hbind : bindArgs (PySem.W.kla_fn "<lambda>" (X.env.qual ++ "<lambda>") params body scope (cloFrom X.env.cells scope.names []) pm (.ref c') ctv) ⟨[u], []⟩ = pure [(x, u)]) (room : Room (k + 3) X.A)
    (hbody : ∀ (A : Around) (s : Shared) (H : Hp), Room k (A.deeper (lamEnv X scope s.heap.objs.size f c')) → PE (cxP X A s H scope x f c') body tb) (rv : RelV v u) (ht : tb (σ ++ [some v]) H Q) :
    wpAny (model X.prog X.w) X.A.in1.in1 (call (.ref f) [u]) (fun r s2 => CE X.stack X.prog X.w H s Q r s2) (fun _ _ => False) s := by
  have r1 : Room (k + 1) X.A.in1.in1 := Room.in1 (Room.in1 room)
  have e0 : Env0 X.prog X.w X.K X.mg X.base X.A.in1.in1 X.stack s H := ⟨I.env0.1, I.env0.mod, I.env0.bs, I.env0.bsz, I.env0.funs, I.env0.frf, I.env0.hok, I.env0.bare⟩
  obtain ⟨⟨oc, fs, t, hoc, hdc, hvc⟩, _, _⟩ := I.hok c' _ hco
  have run : codeAny (model X.prog X.w) X.A.in1.in1 (.call (.ref f) ⟨[u], []⟩) (fun r s2 => ∃ z, r = .ok (.ret z) ∧ CE X.stack X.prog X.w H s Q z s2) s := by
    refine PySem.W.kla_callFunE r1.depth hf rfl L.co L.gen rfl ⟨c', oc, fs, t, rfl, hoc, hdc, hvc⟩ ?_
    rw [hbind]
    refine wpAny_pure (wpAny_newFunctionEnv (fun y hy => (L.only y hy).1) (fun y hy => ?_) (fun g hns hsb => ⟨I.nolimit.fresh _ hsb, ?_⟩) L.kind)
    · rw [List.mem_singleton] at hy
      rw [hy]
      exact L.mine
    · show codeAny _ _ (.expr body (lamEnv X scope s.heap.objs.size f c')) _ _
      have kp : ∀ b o, s.heap.get? b = some o → g.get? b = some o := fun b o e => hsb.extBut b o (Nat.ne_of_lt (Heap.lt_size e)) (Heap.get?_push_of_some _ e)
      have J := startP (f := f) (c' := c') (tk := s.toks + ([(x, u)] : List (Str × Value)).length) I L nx e0 r1.hd rv hns kp
      refine PySem.W.kla_codeExpr (wpAny_mono ((hbody _ s H (r1.deeper _)).run [] _ _ H Q J ht) (fun z s2 hq => ?_) fun _ _ hq => False.elim hq)
      obtain ⟨z', H', J', rz, q⟩ := hq
      exact ⟨z, rfl, z', H', J'.os, J'.bare, J'.base, J'.hok, rz, q⟩
  refine wpAny_call (codeAny_mono run fun r s2 hq => ?_)
  obtain ⟨z, rfl, hq⟩ := hq
  exact hq
end
end SL
namespace SL
open PySem PySem.Spec PyProof.Rows L2 LamX PySem.W
def KeyV (H : Hp) (z : V) (d : PyData) : Prop := (∃ i : Int, z = .int i ∧ d = .int i) ∨ ∃ (t : Addr) (i j : Int), z = .ref t ∧ H t = some (.tup [.int i, .int j]) ∧ d = .tuple [.int i, .int j]
theorem KeyV.same {H H' : Hp} {z : V} {d : PyData} (k : KeyV H z d) (s : Same H H') : KeyV H' z d := by
  rcases k with h | ⟨t, i, j, a, b, c⟩
  · exact Or.inl h
  · exact Or.inr ⟨t, i, j, a, s _ _ b, c⟩
theorem KeyV.reads {P : Program} {w : World} {H : Hp} {h : Heap} {z : V} {u : Value} {d : PyData} (k : KeyV H z d) (ok : HOk P w H h) (r : RelV z u) : ∃ as, Reads h u d as := by
  rcases k with ⟨i, rfl, rfl⟩ | ⟨t, i, j, rfl, ht, rfl⟩
  · obtain ⟨t, rfl⟩ := r
    exact ⟨_, .int i t⟩
  · obtain rfl : u = Value.ref t := r
    obtain ⟨_, its, rv, ob, e, cl, n, dat⟩ := ok t _ ht
    cases rv with
    | cons r1 t1 =>
      cases t1 with
      | cons r2 t2 =>
        cases t2
        obtain ⟨t1, rfl⟩ := r1
        obtain ⟨t2, rfl⟩ := r2
        exact ⟨_, .tuple e cl dat (.cons (.int i t1) (.cons (.int j t2) .nil))⟩
section
variable {X : Cx} {pins : List (Addr × Obj)} {σ : L2.St} {H H0 : Hp} {s s0 : Shared}
theorem inv_new {g : Heap} {tk : Nat} {ch : List Addr} (I0 : Inv X pins σ H0 s0) (I : Inv X pins σ H s) (new : ∀ b ∈ ch, s0.heap.objs.size ≤ b) (un : ∀ b ∈ ch, H b = none) (kp : ∀ b o, b ∉ ch → s.heap.get? b = some o → g.get? b = some o) :
    Inv X pins σ H { s with heap := g, toks := tk } := by
  have far : ∀ b ∈ ch, ∀ c, c < s0.heap.objs.size → c ≠ b := fun b hb c l z => by
    have := new b hb
    rw [← z] at this
    exact Nat.lt_irrefl _ (Nat.lt_of_lt_of_le l this)
  have nl : X.env.locals ∉ ch := fun z => far _ z _ I0.lt rfl
  refine I.step (g' := s.gens) (d' := s.drawn) (ch := ch) (fun b hb => ⟨Or.inr (Nat.le_trans I0.sz (new b hb)), fun z => far b hb _ I0.lt z.symm, fun y c e => ?_, fun p hp => ?_⟩) (fun b o _ _ nb e _ => kp b o nb e) (fun b o _ _ nb e _ => ⟨o.slots, kp b o nb e⟩) (fun b o _ _ n => n) (fun b o nb e => ⟨o, kp b o nb e⟩) (fun _ _ e => e) (fun _ _ _ e => e)
    (fun b ps e => ⟨#[], by rw [e]; simp⟩) (fun m h => ?_) (fun b o e => ?_) I.bare
  · obtain ⟨v, o, ho, _⟩ := I0.cell y c e
    exact far b hb c (Heap.lt_size ho)
  · exact far b hb _ (Heap.lt_size (I0.pin p hp).1)
  · obtain ⟨o, es, ep, ho, r⟩ := h
    exact ⟨o, es, ep, kp _ _ nl ho, r⟩
  · have nb : ∀ d u, H d = some u → d ∉ ch := fun d u e z => by
      rw [un d z] at e
      cases e
    refine (I.hok b o e).stay (fun d v hd q => kp d v ?_ q) (fun _ q => q) fun _ _ q => q
    rcases hd with z | z
    · rw [z]
      exact nb b o e
    · exact nb d _ z
theorem inv_lay {a : Addr} {o : HO} (I0 : Inv X pins σ H0 s0) (I : Inv X pins σ H s) (new : s0.heap.objs.size ≤ a) (un : H a = none) (ok : ObjOk X.prog X.w (upd H a o) s.heap a o) : Inv X pins σ (upd H a o) s := by
  have far : ∀ c, c < s0.heap.objs.size → c ≠ a := fun c l z => by
    rw [z] at l
    exact Nat.lt_irrefl _ (Nat.lt_of_lt_of_le l new)
  refine I.step (h' := s.heap) (t' := s.toks) (g' := s.gens) (d' := s.drawn) (ch := [a]) (fun b hb => ?_) (fun b o _ _ _ e _ => e) (fun b o _ _ _ e _ => ⟨o.slots, e⟩) (fun b o nb _ n => ?_) (fun b o _ e => ⟨o, e⟩) (fun b xs e => ?_) (fun b u v e => ?_) (fun b ps e => ⟨#[], ?_⟩) (fun m h => h) (fun b u e => ?_) I.bare
  · rw [List.mem_singleton.mp hb]
    refine ⟨Or.inr (Nat.le_trans I0.sz new), fun z => far _ I0.lt z.symm, fun y c e => ?_, fun p hp => far _ (Heap.lt_size (I0.pin p hp).1)⟩
    obtain ⟨v, o, ho, _⟩ := I0.cell y c e
    exact far c (Heap.lt_size ho)
  · rw [upd_ne (fun z => nb (by rw [z]; simp))]
    exact n
  · rw [upd_ne (ne_of_none e un)]
    exact e
  · rw [upd_ne (ne_of_none e un)]
    exact e
  · rw [upd_ne (ne_of_none e un), e]
    simp
  · by_cases z : b = a
    · subst z
      rw [upd_same] at e
      cases e
      exact ok
    · rw [upd_ne z] at e
      exact (I.hok b u e).stay (fun _ _ _ q => q) (fun c q => by rw [upd_ne (ne_of_none q un)]; exact q) fun c xs q => by rw [upd_ne (ne_of_none q un)]; exact q
theorem inv_apart (I0 : Inv X pins σ H0 s0) {b : Addr} (h : s0.heap.objs.size ≤ b) : b ∉ frs X.stack := fun z => by
  rcases List.mem_cons.mp (I0.stkSub _ z) with e | e
  · have l := I0.lt
    rw [← e] at l
    exact Nat.lt_irrefl _ (Nat.lt_of_lt_of_le l h)
  · exact I0.nofs h e
end
theorem vals_snoc {z : V} {u : Value} (r : RelV z u) : ∀ {zs : List V} {us : List Value}, Vals zs us → Vals (zs ++ [z]) (us ++ [u])
  | _, _, .nil => .cons r .nil
  | _, _, .cons a b => .cons a (vals_snoc r b)
theorem each_by {α β : Type} {R : α → β → Prop} : ∀ {as : List α} {bs : List β}, as.length = bs.length → (∀ (i : Nat) (a : α) (b : β), as[i]? = some a → bs[i]? = some b → R a b) → EachIs R as bs
  | [], [], _, _ => .nil
  | [], _ :: _, h, _ => by cases h
  | _ :: _, [], h, _ => by cases h
  | a :: as, b :: bs, h, r => .cons (r 0 a b rfl rfl) (each_by (by simpa using h) fun i x y hx hy => r (i + 1) x y hx hy)
theorem each_reads {P : Program} {w : World} {H : Hp} {h : Heap} {zs : List V} {ks : List Value} {kz : List PyData} (ok : HOk P w H h) (r : Vals zs ks) (l : ks.length = kz.length) (kv : ∀ (i : Nat) (z : V) (d : PyData), zs[i]? = some z → kz[i]? = some d → KeyV H z d) :
    EachIs (fun v d => ∃ as, Reads h v d as) ks kz := by
  refine each_by l fun i u d hu hd => ?_
  have lz := r.length
  have li := (List.getElem?_eq_some_iff.mp hu).1
  obtain ⟨u', hu', rz⟩ := r.get (i := i) (List.getElem?_eq_getElem (by omega))
  rw [hu] at hu'
  cases hu'
  exact (kv i _ d (List.getElem?_eq_getElem (by omega)) hd).reads ok rz
end SL
namespace SL
open PySem PySem.Spec PyProof.Rows L2 LamX PySem.W
theorem lawGT {P : Program} {w : World} {K : PySem.W.Frag} {mg mb : Str → Option Value} {k : Nat} {fa a : Addr} {fd : FuncData} {x : Str} {sp : Sp} {cs : List (Addr × Addr)}
    {s₁ : Shared} {vs : List Value} {ns : List Int} (inK : K.In s₁.heap) (gl : s₁.heap.Ns mainGlobals mg) (bl : s₁.heap.Ns builtinsNs mb)
    (bb : ∀ x : Str, x ≠ "__name__" → mb x = bootBuiltins x) (lim : s₁.heap.NoLimit) (gens : s₁.gens = #[])
    (emp : ∀ p ∈ cs, s₁.heap.get? p.2 = some (tabObj #[])) (outT : ∀ p ∈ cs, K.lookup p.2 = none) (codes : ∀ p ∈ cs, CodeHd s₁.heap p.1 p.2)
    (main : ∃ (bm : Addr) (ob : Obj), mg "__builtins__" = some (.ref bm) ∧ bm ≠ builtinsNs ∧ s₁.heap.get? bm = some ob ∧ ob.cls = .type "module" ∧ ob.dict = some builtinsNs ∧ ob.data = .plain)
    (obj : s₁.heap.get? a = some { cls := .type "list", data := .seq vs.toArray }) (nums : IntsAre vs ns) (few : ns.length ≤ sizeLine) (room : Room k callerA)
    (F : ∀ base : Heap, K.In base → base.Ns mainGlobals mg → (∀ p ∈ cs, TabB base mg p.1 p.2) → FnG P w K mg base k fa fd [x] sp)
    (bound : ∀ (s : Shared) (u : Value), BindsTo s fd ⟨[u], []⟩ [(x, u)])
    (prom : ∀ H : Hp, (∀ p ∈ cs, H p.2 = some (.tbl #[])) → SqL K H a (ns.map V.int) → sp [.ref a] H (fun v _ => v = .bl true) E0) :
    codeAny (model P w) callerA (.call (.ref fa) ⟨[.ref a], []⟩)
      (fun r s' => r = .ok (.ret (.bool true)) ∧ OldK s₁.heap s'.heap ∧ s'.os = s₁.os ∧ AllBare s'.gens) s₁ := by
  have rel := vals_ints nums
  have empty : ∀ b : Addr, (∃ p ∈ cs, p.2 = b) → s₁.heap.get? b = some (tabObj #[]) := by
    rintro b ⟨p, hp, rfl⟩
    exact emp p hp
  have apart : ¬ ∃ p ∈ cs, p.2 = a := fun z => by
    have e := empty a z
    rw [obj] at e
    cases (show Data.seq vs.toArray _ = Data.fields #[] from congrArg Obj.data (Option.some.inj e))
  have inner : ∀ H : Hp, (∀ b, H b = none ∨ ((∃ p ∈ cs, p.2 = b) ∧ H b = some (.tbl #[])) ∨ (b = a ∧ ∃ ob xs, H b = some (.frz ob (.lst xs)))) → (∀ p ∈ cs, H p.2 = some (.tbl #[])) → SqL K H a (ns.map V.int) → HOk P w H s₁.heap → (H a ≠ none → K.lookup a = none) →
      codeAny (model P w) callerA (.call (.ref fa) ⟨[.ref a], []⟩) (fun r s' => r = .ok (.ret (.bool true)) ∧ OldK s₁.heap s'.heap ∧ s'.os = s₁.os ∧ AllBare s'.gens) s₁ := by
    intro H kinds tabs seq hok outA
    have other : ∀ {b : Addr} {o : Obj}, s₁.heap.get? b = some o → (∀ us n, o.data ≠ .seq us n) → o.data ≠ .fields #[] → H b = none := by
      intro b o e n1 n2
      rcases kinds b with z | ⟨z, _⟩ | ⟨rfl, _⟩
      · exact z
      · rw [empty b z] at e
        cases e
        exact absurd rfl n2
      · rw [obj] at e
        cases e
        exact absurd rfl (n1 _ _)
    have nsH : ∀ {b : Addr} {m : Str → Option Value}, s₁.heap.Ns b m → (hidT s₁.heap H).Ns b m := by
      rintro b m ⟨o, es, ep, e, d, r⟩
      refine ⟨o, es, ep, hidT_get e (other e (fun us n z => ?_) fun z => ?_), d, r⟩ <;> (rw [d] at z; cases z)
    have kH : K.In (hidT s₁.heap H) := by
      intro b o e
      refine hidT_get (inK b o e) ?_
      rcases kinds b with z | ⟨⟨p, hp, rfl⟩, _⟩ | ⟨rfl, ob, xs, z⟩
      · exact z
      · rw [outT p hp] at e
        cases e
      · rw [outA (by rw [z]; intro y; cases y)] at e
        cases e
    have limH : (hidT s₁.heap H).NoLimit := by
      obtain ⟨mc, h1, h2⟩ := lim
      exact ⟨mc, nsH h1, h2⟩
    have tb : ∀ p ∈ cs, TabB (hidT s₁.heap H) mg p.1 p.2 := by
      intro p hp
      have ep := emp p hp
      refine ⟨?_, ?_, fun z => ?_⟩
      · obtain ⟨o, us, f1, t1, f2, t2, b1, n1, t3, e1, e2, e3, e4, rest⟩ := codes p hp
        refine ⟨o, us, f1, t1, f2, t2, b1, n1, t3, hidT_get e1 (other e1 (fun vs n z => ?_) fun z => ?_), e2, e3, e4, rest⟩
        · rw [e3] at z
          cases z
        · rw [e3] at z
          cases z
          simp at e4
      · obtain ⟨bm, ob, m1, m2, m3, m4, m5, m6⟩ := main
        refine ⟨bm, ob, m1, m2, fun z => ?_, fun z => ?_, hidT_get m3 (other m3 (fun vs n z => ?_) fun z => ?_), m4, m5, m6⟩
        · obtain ⟨o, es, e', e, d, _⟩ := gl
          rw [z, e] at m3
          cases m3
          rw [d] at m6
          cases m6
        · rw [z, ep] at m3
          cases m3
          cases m6
        · rw [m6] at z
          cases z
        · rw [m6] at z
          cases z
      · obtain ⟨o, es, e', e, d, _⟩ := gl
        rw [z, ep] at e
        cases e
        cases d
    have env : Env0 P w K mg (hidT s₁.heap H) callerA [] s₁ H := by
      refine ⟨rfl, ⟨kH, nsH gl, ⟨mb, nsH bl, bb⟩, limH⟩, fun b o e => of_hidT e, Nat.le_of_eq (hidT_size _ _), trivial, ?_, hok, .of_eq gens⟩
      intro b hb
      cases (show b ∈ ([] : List Addr) from hb)
    have G := F _ kH (nsH gl) tb
    refine codeAny_mono (G.go callerA [] s₁ H ⟨[.ref a], []⟩ [.ref a] [.ref a] _ _ rfl room env (bound s₁ (.ref a)) (.cons rfl .nil) (prom H tabs seq)) ?_
    intro r s' h
    cases r with
    | error e => exact False.elim h
    | ok fl => cases fl with
      | next => exact False.elim h
      | brk => exact False.elim h
      | cont => exact False.elim h
      | ret u =>
        obtain ⟨v, H', os, bare, un, hok', r', q⟩ := h
        obtain rfl : v = .bl true := q
        obtain rfl : u = Value.bool true := r'
        have grown : ∀ p ∈ cs, ∃ more : Array Value, s'.heap.get? p.2 = some (tabObj more) := by
          intro p hp
          obtain ⟨more, z⟩ := un.tbls p.2 #[] (tabs p hp)
          exact ⟨_, hok' p.2 _ z⟩
        have stays : ∀ b o, (¬ ∃ p ∈ cs, p.2 = b) → s₁.heap.get? b = some o → s'.heap.get? b = some o := by
          intro b o nb e
          rcases kinds b with z | ⟨z, _⟩ | ⟨_, ob, xs, z⟩
          · exact un.keep b o e z (fun m => by cases (show b ∈ ([] : List Addr) from m)) (fun m => by cases m)
          · exact absurd z nb
          · obtain ⟨e1, _⟩ := hok b _ z
            obtain ⟨e2, _⟩ := hok' b _ (un.frzs b ob _ z)
            rw [e] at e1
            cases e1
            exact e2
        refine ⟨rfl, ⟨fun b o e => ?_, fun b o e => ?_⟩, os, bare⟩
        · by_cases z : ∃ p ∈ cs, p.2 = b
          · obtain ⟨p, hp, rfl⟩ := z
            obtain ⟨more, hm⟩ := grown p hp
            rw [emp p hp] at e
            cases e
            exact .inr (.inl ⟨((codes p hp).tab (emp p hp)).isCodeTable, rfl, #[], more, rfl, (by rw [Array.empty_append]; exact hm)⟩)
          · exact .inl (stays b o z e)
        · by_cases z : ∃ p ∈ cs, p.2 = b
          · obtain ⟨p, hp, rfl⟩ := z
            obtain ⟨more, hm⟩ := grown p hp
            exact ⟨_, hm⟩
          · exact ⟨o, stays b o z e⟩
  classical
  cases written : K.lookup a with
  | some o =>
    have e := inK a o written
    rw [obj] at e
    cases e
    have yes : ∀ b, (∃ p ∈ cs, p.2 = b) → (fun b => if ∃ p ∈ cs, p.2 = b then some (HO.tbl #[]) else none) b = some (HO.tbl #[]) := fun b z => if_pos z
    have no : ∀ b, (¬ ∃ p ∈ cs, p.2 = b) → (fun b => if ∃ p ∈ cs, p.2 = b then some (HO.tbl #[]) else none) b = none := fun b z => if_neg z
    refine inner (fun b => if ∃ p ∈ cs, p.2 = b then some (HO.tbl #[]) else none) (fun b => ?_) (fun p hp => yes _ ⟨p, hp, rfl⟩) (Or.inr ⟨_, vs.toArray, _, written, rfl, rfl, rfl, ?_, ?_⟩) (fun b u z => ?_) (fun z => absurd (no a apart) z)
    · by_cases z : ∃ p ∈ cs, p.2 = b
      · exact Or.inr (Or.inl ⟨z, yes b z⟩)
      · exact Or.inl (no b z)
    · rw [List.size_toArray, nums.length]; exact few
    · simpa using rel
    · by_cases y : ∃ p ∈ cs, p.2 = b
      · have z' := (yes b y).symm.trans z
        cases z'
        exact empty b y
      · have z' := (no b y).symm.trans z
        cases z'
  | none =>
    have at_ : ∀ b, b = a → (fun b => if b = a then some (HO.frz { cls := .type "list", data := .seq vs.toArray } (.lst (ns.map V.int))) else if ∃ p ∈ cs, p.2 = b then some (HO.tbl #[]) else none) b = some (HO.frz { cls := .type "list", data := .seq vs.toArray } (.lst (ns.map V.int))) := fun b z => if_pos z
    have yes : ∀ b, b ≠ a → (∃ p ∈ cs, p.2 = b) → (fun b => if b = a then some (HO.frz { cls := .type "list", data := .seq vs.toArray } (.lst (ns.map V.int))) else if ∃ p ∈ cs, p.2 = b then some (HO.tbl #[]) else none) b = some (HO.tbl #[]) := fun b y z => (if_neg y).trans (if_pos z)
    have no : ∀ b, b ≠ a → (¬ ∃ p ∈ cs, p.2 = b) → (fun b => if b = a then some (HO.frz { cls := .type "list", data := .seq vs.toArray } (.lst (ns.map V.int))) else if ∃ p ∈ cs, p.2 = b then some (HO.tbl #[]) else none) b = none := fun b y z => (if_neg y).trans (if_neg z)
    have ne : ∀ b, (∃ p ∈ cs, p.2 = b) → b ≠ a := fun b z y => apart (by rw [← y]; exact z)
    refine inner (fun b => if b = a then some (HO.frz { cls := .type "list", data := .seq vs.toArray } (.lst (ns.map V.int))) else if ∃ p ∈ cs, p.2 = b then some (HO.tbl #[]) else none) (fun b => ?_) (fun p hp => yes _ (ne _ ⟨p, hp, rfl⟩) ⟨p, hp, rfl⟩) (Or.inl (Or.inr ⟨_, at_ a rfl⟩)) (fun b u z => ?_) (fun _ => written)
    · by_cases y : b = a
      · exact Or.inr (Or.inr ⟨y, _, _, at_ b y⟩)
      · by_cases z : ∃ p ∈ cs, p.2 = b
        · exact Or.inr (Or.inl ⟨z, yes b y z⟩)
        · exact Or.inl (no b y z)
    · by_cases y : b = a
      · have z' := (at_ b y).symm.trans z
        cases z'
        subst y
        exact ⟨obj, by rw [List.length_map]; exact few, vs, _, rel, obj⟩
      · by_cases y2 : ∃ p ∈ cs, p.2 = b
        · have z' := (yes b y y2).symm.trans z
          cases z'
          exact empty b y2
        · have z' := (no b y y2).symm.trans z
          cases z'
theorem walkGT {l : PySem.W.OpenLaw} {n k : Nat} {q : Program} {loose : List Str} {XP : (Str → Option Value) → Heap → Prop} {YP : World → Heap → Prop}
    {d : DefRec} {K : Params → PySem.W.Frag} {sp : List (Addr × Addr) → PySem.W.Frag → Sp} {x : Str} (names : List Str) (most : l.most = some n) (few : n ≤ sizeLine)
    (plain : d.params.defaults = []) (room : Room k callerA) (inK : ∀ (w : World) (h : Heap), YP w h → (K w.params).In h) (recs : ∀ y ∈ names, ((recsOf q).find? fun e => e.name == y).isSome = true)
    (F : ∀ (w : World) (mg : Str → Option Value) (fa : Addr) (h : Heap), (K w.params).In h → h.Ns mainGlobals mg → mg d.name = some (.ref fa) →
      ∃ (cs : List (Addr × Addr)) (fd : FuncData), (∀ p ∈ cs, ∃ y ∈ names, tabIn (K w.params) y = some p) ∧ (∀ p ∈ cs, (K w.params).lookup p.2 = none) ∧ (∀ (s : Shared) (u : Value), BindsTo s fd ⟨[u], []⟩ [(x, u)]) ∧
        (∀ base : Heap, (K w.params).In base → base.Ns mainGlobals mg → (∀ p ∈ cs, TabB base mg p.1 p.2) → FnG l.prog w (K w.params) mg base k fa fd [x] (sp cs (K w.params))))
    (prom : ∀ (cs : List (Addr × Addr)) (K : PySem.W.Frag) (H : Hp) (a : Addr) (ns : List Int), ns.length ≤ n → (∀ p ∈ cs, H p.2 = some (.tbl #[])) → SqL K H a (ns.map V.int) →
      sp cs K [.ref a] H (fun v _ => v = .bl true) E0) :
    PySem.W.WalkO q loose XP YP l.row.toRowW d [] (fun f vs => PySem.call f vs) := by
  refine Att.attach_call most plain ?_
  intro w s₀ s₁ mg mb fa o pm cd doc a vs ns G Y ho hd hcd named obj nums len gens
  obtain ⟨cs, fd, from_, out, bound, hF⟩ := F w mg fa _ (inK w _ Y) G.T.g named
  have tabs : ∀ p ∈ cs, CodeHd s₁.heap p.1 p.2 ∧ s₁.heap.get? p.2 = some (tabObj #[]) := by
    intro p hp
    obtain ⟨y, hy, e⟩ := from_ p hp
    obtain ⟨r, hr⟩ := Option.isSome_iff_exists.mp (recs y hy)
    exact tab_of G.T (inK w _ Y) hr e
  exact lawGT (inK w _ Y) G.T.g G.T.b G.T.builtins G.T.nolimit gens (fun p hp => (tabs p hp).2) out (fun p hp => (tabs p hp).1) G.T.bmain obj nums (Nat.le_trans len few) room hF bound
    (fun H em seq => prom cs (K w.params) H a ns len em seq)
end SL
namespace DL
open PySem PySem.Spec PyProof.Rows L2 LamX PySem.W SL
inductive D where
  | non | bl (b : Bool) | int (i : Int) | str (x : Str) | tup (ds : List D) | tuk (ds : List D) | lst (ds : List D) | scr (ds : List D) | ref (n : Nat)
inductive O where
  | lst (ds : List D)
  | dK (kvs : List (Key × D))
  | dT (kvs : List (List Key × D))
abbrev DSt := List O
abbrev DEnv := List (Option D)
abbrev DK := D → DSt → Prop
structure Pl where
  h : Nat
  m : List Addr
def Pl.at_ (M : Pl) (n : Nat) : Option Addr := M.m[M.h + n]?
def Pl.app (M : Pl) (l : List Addr) : Pl := ⟨M.h, M.m ++ l⟩
mutual
inductive RV (K : PySem.W.Frag) (M : Pl) (H : Hp) : D → V → Prop
  | non : RV K M H .non .non
  | bl (b : Bool) : RV K M H (.bl b) (.bl b)
  | int (i : Int) : RV K M H (.int i) (.int i)
  | str (x : Str) : RV K M H (.str x) (.str x)
  | tup {a : Addr} {ob : Obj} {xs : List V} {ds : List D} : a ∉ M.m → H a = some (.frz ob (.tup xs)) → ob.dict = none → RVs K M H ds xs → RV K M H (.tup ds) (.ref a)
  | tuk {a : Addr} {xs : List V} {ds : List D} : a ∉ M.m → H a = some (.tup xs) → RVs K M H ds xs → RV K M H (.tuk ds) (.ref a)
  | lst {a : Addr} {xs : List V} {ds : List D} : a ∉ M.m → H a = some (.lst xs) → RVs K M H ds xs → RV K M H (.lst ds) (.ref a)
  | scr {a : Addr} {xs : List V} {ds : List D} : a ∉ M.m → Rd H a (.lst xs) → RVs K M H ds xs → RV K M H (.scr ds) (.ref a)
  | lsk {a : Addr} {xs : List V} {ds : List D} : (∀ G : Hp, SqL K G a xs) → RVs K M H ds xs → RV K M H (.scr ds) (.ref a)
  | ref {n : Nat} {a : Addr} : M.at_ n = some a → RV K M H (.ref n) (.ref a)
inductive RVs (K : PySem.W.Frag) (M : Pl) (H : Hp) : List D → List V → Prop
  | nil : RVs K M H [] []
  | cons {d : D} {v : V} {ds : List D} {vs : List V} : RV K M H d v → RVs K M H ds vs → RVs K M H (d :: ds) (v :: vs)
end
def NT (H : Hp) (a : Addr) : Prop := ∃ o, H a = some o ∧ ∀ ps, o ≠ .tbl ps
theorem NT.no {H : Hp} {a : Addr} (h : H a = none) : ¬ NT H a := fun ⟨o, e, _⟩ => by rw [h] at e; cases e
theorem NT.upd {H : Hp} {a p : Addr} {o : HO} (h : NT H a) (ne : a ≠ p) : NT (upd H p o) a := by
  obtain ⟨u, e, n⟩ := h
  exact ⟨u, by rw [upd_ne ne]; exact e, n⟩
theorem NT.ne {H : Hp} {a p : Addr} (h : NT H a) (np : H p = none) : a ≠ p := fun z => NT.no np (by rw [← z]; exact h)
structure Grow (M : Pl) (H : Hp) (M' : Pl) (H' : Hp) : Prop where
  more : ∃ m, M' = M.app m ∧ ∀ a ∈ m, ¬ NT H a
  keep : ∀ a o, a ∉ M.m → H a = some o → (∀ ps, o ≠ .tbl ps) → H' a = some o
  there : ∀ a, NT H a → NT H' a
  hid : ∀ a ∈ M.m.take M.h, H' a = H a
theorem Pl.app_nil (M : Pl) : M.app [] = M := by unfold Pl.app; rw [List.append_nil]
theorem Grow.refl (M : Pl) (H : Hp) : Grow M H M H := ⟨⟨[], (Pl.app_nil M).symm, fun _ h => nomatch h⟩, fun _ _ _ h _ => h, fun _ h => h, fun _ _ => rfl⟩
theorem Grow.notin {M M' : Pl} {H H' : Hp} (g : Grow M H M' H') {a : Addr} (h : a ∉ M.m) (t : NT H a) : a ∉ M'.m := by
  obtain ⟨m, rfl, fr⟩ := g.more
  intro z
  rcases List.mem_append.mp z with z | z
  · exact h z
  · exact fr a z t
theorem take_app {M : Pl} {m : List Addr} {a : Addr} (h : a ∈ M.m.take M.h) : a ∈ (M.app m).m.take (M.app m).h := by
  show a ∈ (M.m ++ m).take M.h
  rw [List.take_append]
  exact List.mem_append_left _ h
theorem Grow.trans {M M1 M2 : Pl} {H H1 H2 : Hp} (a : Grow M H M1 H1) (b : Grow M1 H1 M2 H2) : Grow M H M2 H2 := by
  refine ⟨?_, fun c o n h t => ?_, fun c h => b.there c (a.there c h), fun c hc => ?_⟩
  · obtain ⟨m1, rfl, f1⟩ := a.more
    obtain ⟨m2, rfl, f2⟩ := b.more
    refine ⟨m1 ++ m2, by unfold Pl.app; simp, fun c hc => ?_⟩
    rcases List.mem_append.mp hc with z | z
    · exact f1 c z
    · exact fun q => f2 c z (a.there c q)
  · exact b.keep c o (a.notin n ⟨o, h, t⟩) (a.keep c o n h t) t
  · obtain ⟨m1, rfl, f1⟩ := id a.more
    exact (b.hid c (take_app hc)).trans (a.hid c hc)
theorem Grow.get {M M' : Pl} {H H' : Hp} (g : Grow M H M' H') {n : Nat} {a : Addr} (h : M.at_ n = some a) : M'.at_ n = some a := by
  obtain ⟨m, rfl, _⟩ := g.more
  unfold Pl.at_ at h ⊢
  show (M.m ++ m)[M.h + n]? = some a
  rw [List.getElem?_append_left (List.getElem?_eq_some_iff.mp h).1]
  exact h
theorem Pl.at_mem {M : Pl} {n : Nat} {a : Addr} (h : M.at_ n = some a) : a ∈ M.m := List.mem_of_getElem? h

def HidOk (M : Pl) (H : Hp) : Prop := ∀ a ∈ M.m.take M.h, ∃ xs, H a = some (.lst xs)
theorem Grow.new {M : Pl} {H : Hp} {p : Addr} {o : HO} (ho : HidOk M H) (h : H p = none) : Grow M H M (upd H p o) :=
  ⟨⟨[], (Pl.app_nil M).symm, fun _ h => nomatch h⟩, fun a u _ e _ => by rw [upd_ne (ne_of_none e h)]; exact e, fun a e => e.upd (e.ne h), fun a ha => by
    obtain ⟨xs, e⟩ := ho a ha
    exact upd_ne (ne_of_none e h)⟩
theorem Grow.place {M : Pl} {H : Hp} {p : Addr} {o : HO} (ho : HidOk M H) (h : H p = none) : Grow M H (M.app [p]) (upd H p o) :=
  ⟨⟨[p], rfl, fun a ha => by rw [List.mem_singleton.mp ha]; exact NT.no h⟩, (Grow.new ho h).keep, (Grow.new ho h).there, (Grow.new ho h).hid⟩
theorem Grow.write {M : Pl} {H : Hp} {n : Nat} {p : Addr} {o : HO} (nd : M.m.Nodup) (hp : M.at_ n = some p) (no : ∀ ps, o ≠ .tbl ps := by intro ps z; cases z) : Grow M H M (upd H p o) :=
  ⟨⟨[], (Pl.app_nil M).symm, fun _ h => nomatch h⟩, fun a u n e _ => by rw [upd_ne (fun z : a = p => n (by rw [z]; exact Pl.at_mem hp))]; exact e, fun a e => by
    by_cases z : a = p
    · rw [z]; exact ⟨o, upd_same, no⟩
    · exact e.upd z, fun a ha => by
    refine upd_ne fun z => ?_
    subst z
    obtain ⟨i, hi⟩ := List.mem_iff_getElem?.mp ha
    rw [List.getElem?_take] at hi
    split at hi
    · obtain ⟨l1, q1⟩ := List.getElem?_eq_some_iff.mp hi
      obtain ⟨l2, q2⟩ := List.getElem?_eq_some_iff.mp hp
      have := (List.getElem_inj nd).mp (q1.trans q2.symm)
      omega
    · cases hi⟩
theorem Rd.grow {M M' : Pl} {H H' : Hp} (g : Grow M H M' H') {a : Addr} {xs : List V} (n : a ∉ M.m) (r : Rd H a (.lst xs)) : Rd H' a (.lst xs) := by
  rcases r with r | ⟨o, r⟩
  · exact .inl (g.keep a _ n r (fun ps z => by cases z))
  · exact .inr ⟨o, g.keep a _ n r (fun ps z => by cases z)⟩
theorem Rd.there {H : Hp} {a : Addr} {xs : List V} (r : Rd H a (.lst xs)) : NT H a := by
  rcases r with r | ⟨o, r⟩ <;> exact ⟨_, r, fun ps z => by cases z⟩
mutual
theorem RV.grow {K : PySem.W.Frag} {M M' : Pl} {H H' : Hp} (g : Grow M H M' H') : ∀ {d : D} {v : V}, RV K M H d v → RV K M' H' d v
  | _, _, .non => .non
  | _, _, .bl b => .bl b
  | _, _, .int i => .int i
  | _, _, .str x => .str x
  | _, _, .tup n h e r => .tup (g.notin n ⟨_, h, fun ps z => by cases z⟩) (g.keep _ _ n h (fun ps z => by cases z)) e (r.grow g)
  | _, _, .tuk n h r => .tuk (g.notin n ⟨_, h, fun ps z => by cases z⟩) (g.keep _ _ n h (fun ps z => by cases z)) (r.grow g)
  | _, _, .lst n h r => .lst (g.notin n ⟨_, h, fun ps z => by cases z⟩) (g.keep _ _ n h (fun ps z => by cases z)) (r.grow g)
  | _, _, .scr n h r => .scr (g.notin n (Rd.there h)) (Rd.grow g n h) (r.grow g)
  | _, _, .lsk h r => .lsk h (r.grow g)
  | _, _, .ref h => .ref (g.get h)
theorem RVs.grow {K : PySem.W.Frag} {M M' : Pl} {H H' : Hp} (g : Grow M H M' H') : ∀ {d : List D} {v : List V}, RVs K M H d v → RVs K M' H' d v
  | _, _, .nil => .nil
  | _, _, .cons h t => .cons (h.grow g) (t.grow g)
end
def RO (K : PySem.W.Frag) (M : Pl) (H : Hp) : O → Addr → Prop
  | .lst ds, a => ∃ xs, H a = some (.lst xs) ∧ RVs K M H ds xs
  | .dK kvs, a => ∃ ys : List (Key × V), H a = some (.dK ys) ∧ kvs.map (·.1) = ys.map (·.1) ∧ RVs K M H (kvs.map (·.2)) (ys.map (·.2))
  | .dT kvs, a => ∃ ys : List (List Key × V), H a = some (.dT ys) ∧ kvs.map (·.1) = ys.map (·.1) ∧ RVs K M H (kvs.map (·.2)) (ys.map (·.2))
structure RS (T : List (Addr × Str)) (K : PySem.W.Frag) (M : Pl) (st : DSt) (H : Hp) : Prop where
  len : M.m.length = M.h + st.length
  nd : M.m.Nodup
  obj : ∀ (n : Nat) (a : Addr) (o : O), M.at_ n = some a → st[n]? = some o → RO K M H o a
  tabs : Tabs T H
  hid : HidOk M H
structure RE (K : PySem.W.Frag) (M : Pl) (H : Hp) (r : DEnv) (σ : L2.St) : Prop where
  len : r.length = σ.length
  at_ : ∀ (i : Nat) (d : D), r[i]? = some (some d) → ∃ v, σ[i]? = some (some v) ∧ RV K M H d v
theorem RE.grow {K : PySem.W.Frag} {M M' : Pl} {H H' : Hp} {r : DEnv} {σ : L2.St} (h : RE K M H r σ) (g : Grow M H M' H') : RE K M' H' r σ :=
  ⟨h.len, fun i d e => by obtain ⟨v, e1, e2⟩ := h.at_ i d e; exact ⟨v, e1, e2.grow g⟩⟩
theorem RO.stay {K : PySem.W.Frag} {M M' : Pl} {H H' : Hp} (g : Grow M H M' H') {o : O} {a : Addr} (h : RO K M H o a) (e : H' a = H a) : RO K M' H' o a := by
  cases o with
  | lst ds => obtain ⟨xs, h1, h2⟩ := h; exact ⟨xs, e.trans h1, h2.grow g⟩
  | dK kvs => obtain ⟨ys, h1, h2, h3⟩ := h; exact ⟨ys, e.trans h1, h2, h3.grow g⟩
  | dT kvs => obtain ⟨ys, h1, h2, h3⟩ := h; exact ⟨ys, e.trans h1, h2, h3.grow g⟩
theorem RO.mut {K : PySem.W.Frag} {M : Pl} {H : Hp} {o : O} {a : Addr} (h : RO K M H o a) : (∃ xs, H a = some (.lst xs)) ∨ (∃ xs, H a = some (.dK xs)) ∨ ∃ xs, H a = some (.dT xs) := by
  cases o with
  | lst ds => obtain ⟨xs, h1, h2⟩ := h; exact .inl ⟨_, h1⟩
  | dK kvs => obtain ⟨ys, h1, h2, h3⟩ := h; exact .inr (.inl ⟨_, h1⟩)
  | dT kvs => obtain ⟨ys, h1, h2, h3⟩ := h; exact .inr (.inr ⟨_, h1⟩)
theorem RS.atM {T : List (Addr × Str)} {K : PySem.W.Frag} {M : Pl} {st : DSt} {H : Hp} (h : RS T K M st H) {n : Nat} {a : Addr} (e : M.at_ n = some a) : ∃ o, st[n]? = some o ∧ RO K M H o a := by
  have lt : n < st.length := by
    have := (List.getElem?_eq_some_iff.mp e).1
    have := h.len
    omega
  exact ⟨st[n], List.getElem?_eq_getElem lt, h.obj n a _ e (List.getElem?_eq_getElem lt)⟩
theorem RS.addr {T : List (Addr × Str)} {K : PySem.W.Frag} {M : Pl} {st : DSt} {H : Hp} (h : RS T K M st H) {n : Nat} {o : O} (e : st[n]? = some o) : ∃ a, M.at_ n = some a ∧ RO K M H o a := by
  have lt : M.h + n < M.m.length := by
    rw [h.len]
    have := (List.getElem?_eq_some_iff.mp e).1
    omega
  exact ⟨M.m[M.h + n], List.getElem?_eq_getElem lt, h.obj n _ o (List.getElem?_eq_getElem lt) e⟩
theorem RS.mutAt {T : List (Addr × Str)} {K : PySem.W.Frag} {M : Pl} {st : DSt} {H : Hp} (h : RS T K M st H) {a : Addr} (ha : a ∈ M.m) : (∃ xs, H a = some (.lst xs)) ∨ (∃ xs, H a = some (.dK xs)) ∨ ∃ xs, H a = some (.dT xs) := by
  obtain ⟨n, hn⟩ := List.mem_iff_getElem?.mp ha
  by_cases lt : n < M.h
  · refine .inl (h.hid a ?_)
    refine List.mem_of_getElem? (i := n) ?_
    rw [List.getElem?_take, if_pos lt]
    exact hn
  · obtain ⟨o, _, ro⟩ := h.atM (n := n - M.h) (a := a) (by
      unfold Pl.at_
      rw [show M.h + (n - M.h) = n by omega]
      exact hn)
    exact ro.mut
theorem RS.tabNe {T : List (Addr × Str)} {K : PySem.W.Frag} {M : Pl} {st : DSt} {H : Hp} (h : RS T K M st H) {a b : Addr} (ha : a ∈ M.m) {u : HO} (hb : H b = some u) (hu : (∃ ps, u = .tbl ps) ∨ ∃ φ, u = .ext φ) : a ≠ b := by
  intro z
  subst z
  rcases h.mutAt ha with ⟨xs, q⟩ | ⟨xs, q⟩ | ⟨xs, q⟩ <;> rw [hb] at q <;> rcases hu with ⟨ps, rfl⟩ | ⟨φ, rfl⟩ <;> cases q
theorem tabs_upd {T : List (Addr × Str)} {H : Hp} {p : Addr} {o : HO} (t : Tabs T H) (h : ∀ b u, H b = some u → ((∃ ps, u = .tbl ps) ∨ ∃ φ, u = .ext φ) → b ≠ p) : Tabs T (upd H p o) := by
  intro q hq
  obtain ⟨ps, h1, h2, h3⟩ := t q hq
  refine ⟨ps, ?_, h2, fun pos cv hc => ?_⟩
  · rw [upd_ne (h _ _ h1 (.inl ⟨ps, rfl⟩))]
    exact h1
  · obtain ⟨c, e1, e2⟩ := h3 pos cv hc
    refine ⟨c, e1, ?_⟩
    rw [upd_ne (h _ _ e2 (.inr ⟨_, rfl⟩))]
    exact e2
theorem RS.notin {T : List (Addr × Str)} {K : PySem.W.Frag} {M : Pl} {st : DSt} {H : Hp} (h : RS T K M st H) {p : Addr} (np : H p = none) : p ∉ M.m := by
  intro z
  rcases h.mutAt z with ⟨xs, q⟩ | ⟨xs, q⟩ | ⟨xs, q⟩ <;> rw [np] at q <;> cases q
theorem HidOk.upd {M : Pl} {H : Hp} {p : Addr} {o : HO} (h : HidOk M H) (np : H p = none) : HidOk M (upd H p o) := fun a ha => by
  obtain ⟨xs, e⟩ := h a ha
  exact ⟨xs, by rw [upd_ne (ne_of_none e np)]; exact e⟩
theorem HidOk.keep {M M' : Pl} {H H' : Hp} (h : HidOk M H) (g : Grow M H M' H') : HidOk M H' := fun a ha => by
  rw [g.hid a ha]
  exact h a ha
theorem RS.new {T : List (Addr × Str)} {K : PySem.W.Frag} {M : Pl} {st : DSt} {H : Hp} (h : RS T K M st H) {p : Addr} {o : HO} (np : H p = none) : RS T K M st (upd H p o) := by
  refine ⟨h.len, h.nd, fun n a u e1 e2 => ?_, tabs_upd h.tabs fun b u hb _ => ne_of_none hb np, h.hid.upd np⟩
  exact (h.obj n a u e1 e2).stay (Grow.new h.hid np) (upd_ne fun z => h.notin np (by rw [← z]; exact Pl.at_mem e1))
theorem RS.place {T : List (Addr × Str)} {K : PySem.W.Frag} {M : Pl} {st : DSt} {H : Hp} (h : RS T K M st H) {p : Addr} {o : HO} {u : O} (np : H p = none) (ro : RO K (M.app [p]) (upd H p o) u p) : RS T K (M.app [p]) (st ++ [u]) (upd H p o) := by
  refine ⟨?_, ?_, fun n a q e1 e2 => ?_, tabs_upd h.tabs fun b u hb _ => ne_of_none hb np, ?_⟩
  · show (M.m ++ [p]).length = M.h + (st ++ [u]).length
    rw [List.length_append, List.length_append, h.len, Nat.add_assoc]
    rfl
  · show (M.m ++ [p]).Nodup
    rw [List.nodup_append]
    refine ⟨h.nd, by simp, fun a ha b hb => ?_⟩
    rw [List.mem_singleton.mp hb]
    exact fun z => h.notin np (z ▸ ha)
  · have e1' : (M.m ++ [p])[M.h + n]? = some a := e1
    by_cases lt : n < st.length
    · rw [List.getElem?_append_left (by rw [h.len]; omega)] at e1'
      rw [List.getElem?_append_left lt] at e2
      exact (h.obj n a q e1' e2).stay (Grow.place h.hid np) (upd_ne fun z => h.notin np (by rw [← z]; exact List.mem_of_getElem? e1'))
    · rw [List.getElem?_append_right (by rw [h.len]; omega)] at e1'
      rw [List.getElem?_append_right (by omega)] at e2
      have n0 : M.h + n - M.m.length = 0 := by
        have := (List.getElem?_eq_some_iff.mp e1').1
        simp at this
        omega
      have n1 : n - st.length = 0 := by rw [h.len] at n0; omega
      rw [n0] at e1'
      rw [n1] at e2
      cases e1'
      cases e2
      exact ro
  · intro a ha
    have ha' : a ∈ (M.m ++ [p]).take M.h := ha
    rw [List.take_append_of_le_length (by rw [h.len]; omega)] at ha'
    exact h.hid.upd np a ha'
theorem RS.write {T : List (Addr × Str)} {K : PySem.W.Frag} {M : Pl} {st : DSt} {H : Hp} (h : RS T K M st H) {n : Nat} {p : Addr} {o : HO} {u : O} (hp : M.at_ n = some p) (ro : RO K M (upd H p o) u p) (no : ∀ ps, o ≠ .tbl ps := by intro ps z; cases z) : RS T K M (st.set n u) (upd H p o) := by
  have pm : p ∈ M.m := Pl.at_mem hp
  refine ⟨by rw [List.length_set]; exact h.len, h.nd, fun m a q e1 e2 => ?_, tabs_upd h.tabs fun b u hb z => (h.tabNe pm hb z).symm, h.hid.keep (Grow.write h.nd hp no)⟩
  by_cases e : m = n
  · subst e
    rw [hp] at e1
    cases e1
    rw [List.getElem?_set_self (by
      have := (List.getElem?_eq_some_iff.mp hp).1
      have := h.len
      omega)] at e2
    cases e2
    exact ro
  · rw [List.getElem?_set_ne (fun z => e z.symm)] at e2
    refine (h.obj m a q e1 e2).stay (Grow.write h.nd hp no) (upd_ne fun z => e ?_)
    subst z
    obtain ⟨l1, q1⟩ := List.getElem?_eq_some_iff.mp e1
    obtain ⟨l2, q2⟩ := List.getElem?_eq_some_iff.mp hp
    have := (List.getElem_inj h.nd).mp (q1.trans q2.symm)
    omega
end DL
namespace DL
open PySem PySem.Spec PyProof.Rows L2 LamX PySem.W SL
abbrev DTE := DEnv → DSt → DK → Prop
abbrev DTA := DEnv → DSt → (List D → DSt → Prop) → Prop
abbrev DTT := DEnv → DSt → (Bool → DSt → Prop) → Prop
abbrev DR2 := D → D → DSt → DK → Prop
abbrev DRs := List D → DSt → DK → Prop
def Kn (T : List (Addr × Str)) (K : Frag) (M : Pl) (H : Hp) (Q' : DK) (Q : VK) : Prop :=
  ∀ M' H' st' d v, Grow M H M' H' → RS T K M' st' H' → RV K M' H' d v → Q' d st' → Q v H'
theorem Kn.grow {T : List (Addr × Str)} {K : Frag} {M M1 : Pl} {H H1 : Hp} {Q' : DK} {Q : VK} (k : Kn T K M H Q' Q) (g : Grow M H M1 H1) : Kn T K M1 H1 Q' Q :=
  fun M' H' st' d v g1 s r q => k M' H' st' d v (g.trans g1) s r q
theorem Kn.here {T : List (Addr × Str)} {K : Frag} {M : Pl} {H : Hp} {Q' : DK} {Q : VK} {st : DSt} {d : D} {v : V} (k : Kn T K M H Q' Q) (s : RS T K M st H) (r : RV K M H d v) (q : Q' d st) : Q v H :=
  k M H st d v (Grow.refl M H) s r q
def lift (T : List (Addr × Str)) (K : Frag) (f : DTE) : TE := fun σ H Q => ∃ M r st Q', RS T K M st H ∧ RE K M H r σ ∧ f r st Q' ∧ Kn T K M H Q' Q
def liftA (T : List (Addr × Str)) (K : Frag) (f : DTA) : TA := fun σ H Q => ∃ M r st Q', RS T K M st H ∧ RE K M H r σ ∧ f r st Q' ∧
  ∀ M' H' st' ds vs, Grow M H M' H' → RS T K M' st' H' → RVs K M' H' ds vs → Q' ds st' → Q vs H'
def liftT (T : List (Addr × Str)) (K : Frag) (f : DTT) : TT := fun σ H Q => ∃ M r st Q', RS T K M st H ∧ RE K M H r σ ∧ f r st Q' ∧
  ∀ M' H' st' b, Grow M H M' H' → RS T K M' st' H' → Q' b st' → Q b H'
theorem PE.imp {X : Cx} {e : Expr} {t t' : TE} (h : PE X e t) (i : ∀ σ H Q, t' σ H Q → t σ H Q) : PE X e t' := ⟨fun pins s σ H Q I z => h.run pins s σ H Q I (i σ H Q z)⟩
theorem PA.imp {X : Cx} {e : List Expr} {t t' : TA} (h : PA X e t) (i : ∀ σ H Q, t' σ H Q → t σ H Q) : PA X e t' := ⟨fun pos pins s σ H Q I z => h.run pos pins s σ H Q I (i σ H Q z)⟩
theorem PT.imp {X : Cx} {e : Expr} {t t' : TT} (h : PT X e t) (i : ∀ σ H Q, t' σ H Q → t σ H Q) : PT X e t' := ⟨fun pins s σ H Q I z => h.run pins s σ H Q I (i σ H Q z)⟩
theorem PW.imp {X : Cx} {e : Expr} {t t' : TT} (h : PW X e t) (i : ∀ σ H Q, t' σ H Q → t σ H Q) : PW X e t' := ⟨fun wh pins s σ H Q I z => h.run wh pins s σ H Q I (i σ H Q z)⟩
theorem PS.imp {X : Cx} {e : Stmt} {t t' : TS} (h : PS X e t) (i : ∀ D σ H, t' D σ H → t D σ H) : PS X e t' := ⟨fun pins s σ H D I z => h.run pins s σ H D I (i D σ H z)⟩
theorem PSs.imp {X : Cx} {e : List Stmt} {t t' : TS} (h : PSs X e t) (i : ∀ D σ H, t' D σ H → t D σ H) : PSs X e t' := ⟨fun pins s σ H D I z => h.run pins s σ H D I (i D σ H z)⟩
abbrev DE (T : List (Addr × Str)) (X : Cx) (e : Expr) (f : DTE) : Prop := PE X e (lift T X.K f)
abbrev DA (T : List (Addr × Str)) (X : Cx) (e : List Expr) (f : DTA) : Prop := PA X e (liftA T X.K f)
abbrev DT (T : List (Addr × Str)) (X : Cx) (e : Expr) (f : DTT) : Prop := PT X e (liftT T X.K f)
abbrev DW (T : List (Addr × Str)) (X : Cx) (e : Expr) (f : DTT) : Prop := PW X e (liftT T X.K f)

def onI (d : D) (k : Int → Prop) : Prop := match d with | .int i => k i | _ => False
def onB (d : D) (k : Bool → Prop) : Prop := match d with | .bl i => k i | _ => False
def onO {α : Type} (o : Option α) (k : α → Prop) : Prop := match o with | some d => k d | none => False
def onOO (o : Option (Option D)) (k : D → Prop) : Prop := match o with | some (some d) => k d | _ => False
theorem onI.of {d : D} {k : Int → Prop} (h : onI d k) : ∃ i, d = .int i ∧ k i := by
  cases d with
  | int i => exact ⟨i, rfl, h⟩
  | _ => exact h.elim
theorem onB.of {d : D} {k : Bool → Prop} (h : onB d k) : ∃ i, d = .bl i ∧ k i := by
  cases d with
  | bl i => exact ⟨i, rfl, h⟩
  | _ => exact h.elim
theorem onO.of {α : Type} {d : Option α} {k : α → Prop} (h : onO d k) : ∃ i, d = some i ∧ k i := by
  cases d with
  | some i => exact ⟨i, rfl, h⟩
  | none => exact h.elim
theorem onOO.of {d : Option (Option D)} {k : D → Prop} (h : onOO d k) : ∃ i, d = some (some i) ∧ k i := by
  cases d with
  | none => exact h.elim
  | some o => cases o with
    | none => exact h.elim
    | some i => exact ⟨i, rfl, h⟩
def seqS (st : DSt) : D → Option (List D)
  | .tup ds => some ds
  | .tuk ds => some ds
  | .lst ds => some ds
  | .scr ds => some ds
  | .ref n => match st[n]? with | some (.lst ds) => some ds | _ => none
  | _ => none
section
variable {T : List (Addr × Str)} {K : Frag} {M : Pl} {H : Hp} {st : DSt}
theorem RVs.length : ∀ {ds : List D} {vs : List V}, RVs K M H ds vs → ds.length = vs.length
  | _, _, .nil => rfl
  | _, _, .cons _ t => by rw [List.length_cons, List.length_cons, RVs.length t]
theorem RVs.get : ∀ {ds : List D} {vs : List V}, RVs K M H ds vs → ∀ {i : Nat} {d : D}, ds[i]? = some d → ∃ v, vs[i]? = some v ∧ RV K M H d v
  | _, _, .nil, i, d, e => by simp at e
  | _, _, .cons h t, 0, d, e => by
    simp at e
    subst e
    exact ⟨_, rfl, h⟩
  | _, _, .cons h t, i + 1, d, e => by
    obtain ⟨v, e1, e2⟩ := RVs.get t (i := i) (d := d) (by simpa using e)
    exact ⟨v, by simpa using e1, e2⟩
theorem RVs.append : ∀ {ds es : List D} {vs ws : List V}, RVs K M H ds vs → RVs K M H es ws → RVs K M H (ds ++ es) (vs ++ ws)
  | _, _, _, _, .nil, s => s
  | _, _, _, _, .cons h t, s => .cons h (RVs.append t s)
theorem RVs.take : ∀ {ds : List D} {vs : List V} (n : Nat), RVs K M H ds vs → RVs K M H (ds.take n) (vs.take n)
  | _, _, 0, _ => .nil
  | _, _, _ + 1, .nil => .nil
  | _, _, n + 1, .cons h t => .cons h (RVs.take n t)
theorem RVs.drop : ∀ {ds : List D} {vs : List V} (n : Nat), RVs K M H ds vs → RVs K M H (ds.drop n) (vs.drop n)
  | _, _, 0, h => h
  | _, _, _ + 1, .nil => .nil
  | _, _, n + 1, .cons _ t => RVs.drop n t
theorem RVs.set {d : D} {v : V} (h : RV K M H d v) : ∀ {ds : List D} {vs : List V} (n : Nat), RVs K M H ds vs → RVs K M H (ds.set n d) (vs.set n v)
  | _, _, _, .nil => .nil
  | _, _, 0, .cons _ t => .cons h t
  | _, _, n + 1, .cons q t => .cons q (RVs.set h n t)
theorem RVs.eraseIdx : ∀ {ds : List D} {vs : List V} (n : Nat), RVs K M H ds vs → RVs K M H (ds.eraseIdx n) (vs.eraseIdx n)
  | _, _, _, .nil => .nil
  | _, _, 0, .cons _ t => t
  | _, _, n + 1, .cons q t => .cons q (RVs.eraseIdx n t)
theorem RVs.ints : ∀ {ns : List Int} {vs : List V}, RVs K M H (ns.map D.int) vs → vs = ns.map V.int
  | [], _, .nil => rfl
  | n :: ns, _, .cons (.int _) t => by rw [RVs.ints t]; rfl
theorem RVs.of_ints : ∀ ns : List Int, RVs K M H (ns.map D.int) (ns.map V.int)
  | [] => .nil
  | n :: ns => .cons (.int n) (RVs.of_ints ns)
theorem RVs.bls : ∀ {ns : List Bool} {vs : List V}, RVs K M H (ns.map D.bl) vs → vs = ns.map V.bl
  | [], _, .nil => rfl
  | n :: ns, _, .cons (.bl _) t => by rw [RVs.bls t]; rfl
theorem RVs.nil_iff {ds : List D} {vs : List V} (r : RVs K M H ds vs) : ds = [] ↔ vs = [] := by
  cases r with
  | nil => simp
  | cons _ _ => simp
theorem seqS.rd {d : D} {v : V} {ds : List D} (s : RS T K M st H) (r : RV K M H d v) (e : seqS st d = some ds) : ∃ a xs, v = .ref a ∧ (SqL K H a xs ∨ SqT K H a xs) ∧ RVs K M H ds xs := by
  cases r with
  | tup n h q rs => cases e; exact ⟨_, _, rfl, .inr (.inl (.inr ⟨_, h⟩)), rs⟩
  | tuk n h rs => cases e; exact ⟨_, _, rfl, .inr (.inl (.inl h)), rs⟩
  | lst n h rs => cases e; exact ⟨_, _, rfl, .inl (.inl (.inl h)), rs⟩
  | scr n h rs => cases e; exact ⟨_, _, rfl, .inl (.inl h), rs⟩
  | lsk h rs => cases e; exact ⟨_, _, rfl, .inl (h H), rs⟩
  | ref h =>
    obtain ⟨o, e1, ro⟩ := s.atM h
    unfold seqS at e
    simp only [e1] at e
    cases o with
    | lst xs => cases e; obtain ⟨ys, q, rs⟩ := ro; exact ⟨_, ys, rfl, .inl (.inl (.inl q)), rs⟩
    | dK _ => cases e
    | dT _ => cases e
  | _ => cases e
end
def dVar (i : Nat) : DTE := fun r st Q => onOO r[i]? fun d => Q d st
def dC (d : D) : DTE := fun _ st Q => Q d st
section
variable {T : List (Addr × Str)} {X : Cx}
theorem de_var {i : Nat} {e : Expr} (h : PE X e (tVar i)) : DE T X e (dVar i) := PE.imp h fun σ H Q ⟨M, r, st, Q', s, re, hf, k⟩ => by
  obtain ⟨d, e, q⟩ := onOO.of hf
  obtain ⟨v, e1, rv⟩ := re.at_ i d e
  exact ⟨v, e1, k.here s rv q⟩
theorem de_const {e : Expr} {d : D} {v : V} (h : PE X e (tC v)) (r : ∀ M H, RV X.K M H d v) : DE T X e (dC d) := PE.imp h fun σ H Q ⟨M, rr, st, Q', s, re, hf, k⟩ => k.here s (r M H) hf
theorem de_int {i j pos} : DE T X (.Constant (.int i) j pos) (dC (.int i)) := de_const pe_int fun _ _ => .int i
theorem de_bl {i j pos} : DE T X (.Constant (.bool i) j pos) (dC (.bl i)) := de_const pe_bl fun _ _ => .bl i
theorem de_non {j pos} : DE T X (.Constant .none j pos) (dC .non) := de_const pe_non fun _ _ => .non
theorem de_globI {x : Str} {i : Int} {u : Value} {pos : Pos} (hg : Gl X x) (hm : X.mg x = some u) (r : RelV (.int i) u) (hd : (x == ("__debug__" : Str)) = false := by decide) : DE T X (.Name x pos) (dC (.int i)) :=
  de_const (pe_glob hg hm r hd) fun _ _ => .int i
end
def OpD (T : List (Addr × Str)) (K : Frag) (r : R2) (r' : DR2) : Prop := ∀ (M : Pl) (H : Hp) (st : DSt) (x y : D) (vx vy : V) (Q' : DK) (Q : VK), RS T K M st H → RV K M H x vx → RV K M H y vy → r' x y st Q' → Kn T K M H Q' Q → r vx vy H Q
def dOp (r : DR2) (fa fb : DTE) : DTE := fun ρ st Q => fa ρ st fun x st1 => fb ρ st1 fun y st2 => r x y st2 Q
theorem lift2 {T : List (Addr × Str)} {K : Frag} {r : R2} {r' : DR2} {fa fb : DTE} (o : OpD T K r r') {σ : L2.St} {H : Hp} {Q : VK} (h : lift T K (dOp r' fa fb) σ H Q) : tOp r (lift T K fa) (lift T K fb) σ H Q := by
  obtain ⟨M, ρ, st, Q', s, re, hf, k⟩ := h
  refine ⟨M, ρ, st, _, s, re, hf, fun M1 H1 st1 x vx g1 s1 r1 h1 => ⟨M1, ρ, st1, _, s1, re.grow g1, h1, fun M2 H2 st2 y vy g2 s2 r2 h2 => ?_⟩⟩
  exact o M2 H2 st2 x y vx vy Q' Q s2 (r1.grow g2) r2 h2 (k.grow (g1.trans g2))
section
variable {T : List (Addr × Str)} {X : Cx} {a b c : Expr} {fa fb fc : DTE} {pos : Pos}
theorem de_op {op : Operator} {r : R2} {r' : DR2} (ho : OpR X (binaryOp op) r) (hd : OpD T X.K r r') (ha : DE T X a fa) (hb : DE T X b fb) : DE T X (.BinOp a op b pos) (dOp r' fa fb) :=
  PE.imp (pe_op ho ha hb) fun _ _ _ h => lift2 hd h
theorem de_cmp {op : CmpOp} {r : R2} {r' : DR2} (ho : OpR X (compareOp op) r) (hd : OpD T X.K r r') (ha : DE T X a fa) (hb : DE T X b fb) (hm : behindInMarks op b = false) : DE T X (.Compare a [op] [b] pos) (dOp r' fa fb) :=
  PE.imp (pe_cmpR ho ha hb hm) fun _ _ _ h => lift2 hd h
def dI (C : Int → Int → Prop) (g : Int → Int → D) : DR2 := fun x y st Q => onI x fun i => onI y fun j => C i j ∧ Q (g i j) st
def dI0 (g : Int → Int → D) : DR2 := fun x y st Q => onI x fun i => onI y fun j => Q (g i j) st
theorem opD_I {T : List (Addr × Str)} {K : Frag} {C : Int → Int → Prop} {g : Int → Int → D} {gv : Int → Int → V} (hg : ∀ i j M H, RV K M H (g i j) (gv i j)) : OpD T K (rI C gv) (dI C g) := by
  intro M H st x y vx vy Q' Q s rx ry h k
  obtain ⟨i, rfl, h1⟩ := onI.of h
  obtain ⟨j, rfl, c, h2⟩ := onI.of h1
  cases rx
  cases ry
  exact ⟨i, j, rfl, rfl, c, k.here s (hg i j M H) h2⟩
theorem opD_I0 {T : List (Addr × Str)} {K : Frag} {g : Int → Int → D} {gv : Int → Int → V} (hg : ∀ i j M H, RV K M H (g i j) (gv i j)) : OpD T K (rI0 gv) (dI0 g) := by
  intro M H st x y vx vy Q' Q s rx ry h k
  obtain ⟨i, rfl, h1⟩ := onI.of h
  obtain ⟨j, rfl, h2⟩ := onI.of h1
  cases rx
  cases ry
  exact ⟨i, j, rfl, rfl, k.here s (hg i j M H) h2⟩
abbrev dMod : DR2 := dI (fun _ j => 0 < j) fun i j => .int (i % j)
abbrev dDiv : DR2 := dI CDiv fun i j => .int (i / j)
abbrev dPow : DR2 := dI (fun i j => 0 ≤ j ∧ (Builtin.Int.intBits i : Int) * j ≤ 2 ^ 27) fun i j => .int (i ^ j.toNat)
theorem de_mod (ha : DE T X a fa) (hb : DE T X b fb) : DE T X (.BinOp a .Mod b pos) (dOp dMod fa fb) := de_op op_mod (opD_I fun _ _ _ _ => .int _) ha hb
theorem de_div (ha : DE T X a fa) (hb : DE T X b fb) : DE T X (.BinOp a .FloorDiv b pos) (dOp dDiv fa fb) := de_op op_fdiv (opD_I fun _ _ _ _ => .int _) ha hb
theorem de_pow (ha : DE T X a fa) (hb : DE T X b fb) : DE T X (.BinOp a .Pow b pos) (dOp dPow fa fb) := de_op op_powB (opD_I fun _ _ _ _ => .int _) ha hb
abbrev dLe : DR2 := dI0 fun i j => .bl (decide (i ≤ j))
abbrev dGt : DR2 := dI0 fun i j => .bl (decide (j < i))
abbrev dGe : DR2 := dI0 fun i j => .bl (decide (j ≤ i))
def dNeg (fa : DTE) : DTE := fun r st Q => fa r st fun x st1 => onI x fun i => Q (.int (-i)) st1
theorem de_neg (ha : DE T X a fa) : DE T X (.UnaryOp .USub a pos) (dNeg fa) := PE.imp (pe_un un_neg ha) fun σ H Q ⟨M, ρ, st, Q', s, re, hf, k⟩ =>
  ⟨M, ρ, st, _, s, re, hf, fun M1 H1 st1 x vx g1 s1 r1 h1 => by
    obtain ⟨i, rfl, h⟩ := onI.of h1
    cases r1
    exact ⟨i, rfl, (k.grow g1).here s1 (.int _) h⟩⟩
def isNon : D → Bool
  | .non => true
  | _ => false
theorem RV.isNon {K : Frag} {M : Pl} {H : Hp} {d : D} {v : V} (r : RV K M H d v) : decide (v = V.non) = isNon d := by cases r <;> first | rfl | simp [DL.isNon]
def dIsN (fa : DTE) : DTE := fun r st Q => fa r st fun x st1 => Q (.bl (isNon x)) st1
def dNotN (fa : DTE) : DTE := fun r st Q => fa r st fun x st1 => Q (.bl (!isNon x)) st1
theorem lift_notN {K : Frag} {σ : L2.St} {H : Hp} {Q : VK} (h : lift T K (dNotN fa) σ H Q) : tNotN (lift T K fa) σ H Q := by
  obtain ⟨M, ρ, st, Q', s, re, hf, k⟩ := h
  refine ⟨M, ρ, st, _, s, re, hf, fun M1 H1 st1 x vx g1 s1 r1 h1 => ?_⟩
  show Q (.bl (!decide (vx = V.non))) H1
  rw [r1.isNon]
  exact (k.grow g1).here s1 (.bl _) h1
def dAndV (fa fb : DTE) : DTE := fun r st Q => fa r st fun x st1 => onB x fun c => if c = true then fb r st1 Q else Q (.bl false) st1
def dOrV (fa fb : DTE) : DTE := fun r st Q => fa r st fun x st1 => onB x fun c => if c = true then Q (.bl true) st1 else fb r st1 Q
def dNotV (fa : DTE) : DTE := fun r st Q => fa r st fun x st1 => onB x fun c => Q (.bl (!c)) st1
def dTest (fa : DTE) : DTT := fun r st Q => fa r st fun x st1 => onB x fun c => Q c st1
theorem liftT_test {T : List (Addr × Str)} {K : Frag} {fa : DTE} {σ : L2.St} {H : Hp} {Q : Bool → Hp → Prop} (h : liftT T K (dTest fa) σ H Q) : tB (lift T K fa) σ H Q := by
  obtain ⟨M, ρ, st, Q', s, re, hf, k⟩ := h
  refine ⟨M, ρ, st, _, s, re, hf, fun M1 H1 st1 x vx g1 s1 r1 h1 => ?_⟩
  obtain ⟨c, rfl, h⟩ := onB.of h1
  cases r1
  exact ⟨c, rfl, k M1 H1 st1 c g1 s1 h⟩
theorem dt_val (h : DE T X a fa) (he : ∀ whole, isTrue a X.env whole = (do let v ← whole; standAt a.pos; holding [v] (truthy v)) := by intro _; rfl) : DT T X a (dTest fa) := PT.imp (pt_val h he) fun _ _ _ z => liftT_test z
theorem dt_cmpR {op : CmpOp} {r : R2} {r' : DR2} (ho : OpR X (compareOp op) r) (hd : OpD T X.K r r') (ha : DE T X a fa) (hb : DE T X b fb) (hm : behindInMarks op b = false) : DT T X (.Compare a [op] [b] pos) (dTest (dOp r' fa fb)) :=
  PT.imp (pt_cmpR ho ha hb hm) fun σ H Q z => by
    obtain ⟨M, ρ, st, Q', s, re, hf, k⟩ := z
    have z2 : lift T X.K (dOp r' fa fb) σ H (fun x H' => ∃ c, x = .bl c ∧ Q c H') := ⟨M, ρ, st, _, s, re, hf, fun M1 H1 st1 x vx g1 s1 r1 h1 => by
      obtain ⟨c, rfl, h⟩ := onB.of h1
      cases r1
      exact ⟨c, rfl, k M1 H1 st1 c g1 s1 h⟩⟩
    exact lift2 hd z2
theorem dt_cmp {op : CmpOp} {t : TE} {f : DTE} (h : PC X op a b t) (i : ∀ σ H Q, lift T X.K f σ H Q → t σ H Q) (h1 : behindInMarks op b = false := by first | exact nobehind _ (by decide) (by decide) | rfl) : DT T X (.Compare a [op] [b] pos) (dTest f) :=
  PT.imp (pt_cmp h h1) fun σ H Q z => by
    obtain ⟨M, ρ, st, Q', s, re, hf, k⟩ := z
    exact i σ H (fun x H' => ∃ c, x = .bl c ∧ Q c H') ⟨M, ρ, st, _, s, re, hf, fun M1 H1 st1 x vx g1 s1 r1 h1 => by
      obtain ⟨c, rfl, h⟩ := onB.of h1
      cases r1
      exact ⟨c, rfl, k M1 H1 st1 c g1 s1 h⟩⟩
theorem dt_notN {j pos'} (ha : DE T X a fa) : DT T X (.Compare a [.IsNot] [.Constant .none j pos'] pos) (dTest (dNotN fa)) := dt_cmp (pc_notN ha) fun _ _ _ h => lift_notN h
def dtAnd (t u : DTT) : DTT := fun r st Q => t r st fun c st1 => if c = true then u r st1 Q else Q false st1
def dtOr (t u : DTT) : DTT := fun r st Q => t r st fun c st1 => if c = true then Q true st1 else u r st1 Q
def dtNot (t : DTT) : DTT := fun r st Q => t r st fun c st1 => Q (!c) st1
variable {tA tB' : DTT}
theorem dw_and1 (ha : DT T X a tA) : DW T X (.BoolOp .And [a] pos) tA := pw_and1 ha
theorem dw_or1 (ha : DT T X a tA) : DW T X (.BoolOp .Or [a] pos) tA := pw_or1 ha
theorem dw_and {rest : List Expr} (ha : DT T X a tA) (hb : DW T X (.BoolOp .And (b :: rest) pos) tB') : DW T X (.BoolOp .And (a :: b :: rest) pos) (dtAnd tA tB') := PW.imp (pw_and ha hb) fun σ H Q ⟨M, ρ, st, Q', s, re, hf, k⟩ =>
  ⟨M, ρ, st, _, s, re, hf, fun M1 H1 st1 c g1 s1 h => by
    cases c with
    | true => rw [if_pos rfl] at h ⊢; exact ⟨M1, ρ, st1, _, s1, re.grow g1, h, fun M2 H2 st2 b g2 s2 q => k M2 H2 st2 b (g1.trans g2) s2 q⟩
    | false => rw [if_neg (by decide)] at h ⊢; exact k M1 H1 st1 false g1 s1 h⟩
theorem dw_or {rest : List Expr} (ha : DT T X a tA) (hb : DW T X (.BoolOp .Or (b :: rest) pos) tB') : DW T X (.BoolOp .Or (a :: b :: rest) pos) (dtOr tA tB') := PW.imp (pw_or ha hb) fun σ H Q ⟨M, ρ, st, Q', s, re, hf, k⟩ =>
  ⟨M, ρ, st, _, s, re, hf, fun M1 H1 st1 c g1 s1 h => by
    cases c with
    | true => rw [if_pos rfl] at h ⊢; exact k M1 H1 st1 true g1 s1 h
    | false => rw [if_neg (by decide)] at h ⊢; exact ⟨M1, ρ, st1, _, s1, re.grow g1, h, fun M2 H2 st2 b g2 s2 q => k M2 H2 st2 b (g1.trans g2) s2 q⟩⟩
theorem dt_not (ha : DT T X a tA) : DT T X (.UnaryOp .Not a pos) (dtNot tA) := PT.imp (pt_not ha) fun σ H Q ⟨M, ρ, st, Q', s, re, hf, k⟩ =>
  ⟨M, ρ, st, _, s, re, hf, fun M1 H1 st1 c g1 s1 h => k M1 H1 st1 _ g1 s1 h⟩
def dIf (t : DTT) (fa fb : DTE) : DTE := fun r st Q => t r st fun c st1 => if c = true then fa r st1 Q else fb r st1 Q
theorem de_if (hc : DT T X c tA) (ha : DE T X a fa) (hb : DE T X b fb) : DE T X (.IfExp c a b pos) (dIf tA fa fb) := PE.imp (pe_ifExp hc ha hb) fun σ H Q ⟨M, ρ, st, Q', s, re, hf, k⟩ =>
  ⟨M, ρ, st, _, s, re, hf, fun M1 H1 st1 c g1 s1 h => by
    cases c with
    | true => rw [if_pos rfl] at h ⊢; exact ⟨M1, ρ, st1, _, s1, re.grow g1, h, k.grow g1⟩
    | false => rw [if_neg (by decide)] at h ⊢; exact ⟨M1, ρ, st1, _, s1, re.grow g1, h, k.grow g1⟩⟩
def daNil : DTA := fun _ st Q => Q [] st
def daCons (f : DTE) (g : DTA) : DTA := fun r st Q => f r st fun d st1 => g r st1 fun ds st2 => Q (d :: ds) st2
theorem da_nil : DA T X [] daNil := PA.imp pa_nil fun σ H Q ⟨M, ρ, st, Q', s, re, hf, k⟩ => k M H st [] [] (Grow.refl M H) s .nil hf
theorem da_cons {e : Expr} {es : List Expr} {f : DTE} {g : DTA} (ha : DE T X e f) (hr : DA T X es g) (hs : starEach (e :: es) X.env = (false, eval e X.env) :: starEach es X.env := by rfl) : DA T X (e :: es) (daCons f g) :=
  PA.imp (pa_cons ha hr hs) fun σ H Q ⟨M, ρ, st, Q', s, re, hf, k⟩ =>
    ⟨M, ρ, st, _, s, re, hf, fun M1 H1 st1 x vx g1 s1 r1 h1 => ⟨M1, ρ, st1, _, s1, re.grow g1, h1, fun M2 H2 st2 ds vs g2 s2 r2 h2 => k M2 H2 st2 _ _ (g1.trans g2) s2 (.cons (r1.grow g2) r2) h2⟩⟩
end
end DL
namespace DL
open PySem PySem.Spec PyProof.Rows L2 LamX PySem.W SL
theorem vals1 {x : V} {us : List Value} (r : Vals [x] us) : ∃ u, us = [u] ∧ RelV x u := Vals.one r
theorem flat_ints : ∀ ns : List Int, (ns.map V.int).all flatV = true
  | [] => rfl
  | n :: ns => by rw [List.map_cons, List.all_cons, flat_ints ns]; rfl
def FzT (H : Hp) (a : Addr) (xs : List V) : Prop := ∃ o : Obj, H a = some (.frz o (.tup xs)) ∧ o.dict = none
theorem FzT.sq {K : PySem.W.Frag} {H : Hp} {a : Addr} {xs : List V} (h : FzT H a xs) : SqT K H a xs := by
  obtain ⟨o, e, _⟩ := h
  exact Or.inl (Or.inr ⟨o, e⟩)
theorem FzT.same {H H' : Hp} {a : Addr} {xs : List V} (h : FzT H a xs) (s : Same H H') : FzT H' a xs := by
  obtain ⟨o, e, d⟩ := h
  exact ⟨o, s _ _ e, d⟩
def rTupF (K : PySem.W.Frag) : List V → Hp → VK → Prop := fun xs H Q => ∃ p ys, xs = [.ref p] ∧ SqL K H p ys ∧ ∀ (l : Addr) (o : Obj), H l = none → o.dict = none → Q (.ref l) (upd H l (.frz o (.tup ys)))
theorem call_tupF {X : Cx} : CallR X (.type "tuple") (rTupF X.K) := by
  intro pins s σ H xs us Q I r h
  obtain ⟨p, ys, rfl, sq, q⟩ := h
  obtain ⟨u, rfl, rx⟩ := vals1 r
  cases rx
  obtain ⟨its, rv, pl, few⟩ := I.list sq
  have len := rv.length
  refine call_tuple_list pl.isList (fun g kp => ?_) (by rw [List.size_toArray]; omega)
  have I1 : Inv X pins σ H { s with heap := g } := I.kept (t' := s.toks) kp
  have new : (g.push { cls := .type "tuple", data := .seq its.toArray }).get? g.objs.size = some { cls := .type "tuple", data := .seq its.toArray } := Heap.get?_push_size _ rfl
  exact ⟨.ref g.objs.size, _, I1.laid (t' := s.toks) (o := .frz { cls := .type "tuple", data := .seq its.toArray } (.tup ys)) (fun b o e => Heap.get?_push_of_some _ e) (Nat.le_refl _) ⟨new, few, its, rv, _, new, rfl, _, rfl⟩, rfl, q _ _ (I1.hok.fresh (Nat.le_refl _)) rfl⟩
def tBMF (r : V → List V → Hp → VK → Prop) (to : TE) (t : TA) : TE := fun σ H Q => to σ H fun x H1 => (∃ p xs, x = .ref p ∧ FzT H1 p xs) ∧ t σ H1 fun vs H2 => r x vs H2 Q
theorem pe_bmF {X : Cx} {o e : Expr} {es : List Expr} {to : TE} {t : TA} {name : Str} {apos cpos : Pos} {id : String} {r : V → List V → Hp → VK → Prop} (pa : PlainAttrs "tuple") (slot : Slot "tuple" name id) (ty : typeOf (.builtin id) = pure (.type "method_descriptor")) (hm : MtR X id r) (ho : PE X o to) (ha : PA X (e :: es) t)
    (h1 : attributeBase o name X.env (eval o X.env) = eval o X.env := by rfl)
    (h2 : ((backTo cpos (starEach (e :: es) X.env)).all (fun x => !x.1) && (backToKw cpos (keywordEach [] X.env)).all (fun x => x.1.isSome) && decide ((e :: es).length + ([] : List Keyword).length + (if ([] : List Keyword).isEmpty then 0 else 1) < 30)) = true := by rfl)
    (h3 : (apos.endLine == cpos.line) = true := by rfl) (h4 : starEach (e :: es) X.env = (false, eval e X.env) :: starEach es X.env := by rfl) (h5 : (backTo cpos (starEach es X.env)).any (·.1) = false := by rfl) :
    PE X (.Call (.Attribute o name apos) (e :: es) [] cpos) (tBMF r to t) := by
  constructor
  intro pins s σ H Q I h
  refine wpAny_Call_method_late h1 h2 h3 rfl (thn (ho.run pins s σ H _ I h) ?_)
  rintro v s1 ⟨x, H1, I1, r1, ⟨p, xs, rfl, ob, hp, dn⟩, q1⟩
  obtain rfl : v = Value.ref p := r1
  obtain ⟨at_, _, its, _, ob2, at2, cl, _⟩ := I1.hok p _ hp
  rw [at_] at at2
  cases at2
  refine ⟨"tuple", id, pa, slot, ty, ⟨ob, at_, cl⟩, fun a ea => ?_, ?_⟩
  · cases ea
    exact ⟨ob, at_, dn⟩
  · have run := ha.run cpos pins s1 σ H1 _ I1 q1
    rw [h4] at run ⊢
    refine Calls.callWith_builtin (by show (false || (backTo cpos (starEach es X.env)).any (·.1)) = false; rw [h5]; rfl) (Calls.evalArgs_plain ?_)
    refine thn run ?_
    rintro us s2 ⟨vs, H2, I2, r2, q2⟩
    exact hm pins s2 σ H2 (.ref p) vs _ us Q I2 rfl r2 q2
def rIndexT (K : PySem.W.Frag) : V → List V → Hp → VK → Prop := fun x xs H Q => ∃ (p : Addr) (ns : List Int) (z : Int) (j : Nat), x = .ref p ∧ xs = [.int z] ∧ SqT K H p (ns.map V.int) ∧ ns[j]? = some z ∧ (∀ m, m < j → ns[m]? ≠ some z) ∧ Q (.int (j : Nat)) H
theorem mt_tup_indexI {X : Cx} : MtR X "tuple.index" (rIndexT X.K) := by
  intro pins s σ H x xs v us Q I rx rs h
  obtain ⟨p, ns, z, j, rfl, rfl, sq, hj, no, q⟩ := h
  cases rx
  obtain ⟨u, rfl, t, rfl⟩ := vals1 rs
  obtain ⟨its, r, ⟨⟨cls, dd, dt, sl⟩, ho, hc, n, hd⟩, hz⟩ := I.tuple sq
  simp only at hc hd
  subst hc
  subst hd
  have len : its.toArray.size = ns.length := by rw [List.size_toArray, ← r.length, List.length_map]
  have lj : j < its.toArray.size := by rw [len]; exact (List.getElem?_eq_some_iff.mp hj).1
  have item : ∀ (m : Nat) (lm : m < its.toArray.size), ∃ i t', ns[m]? = some i ∧ its.toArray[m] = Value.int i t' := by
    intro m lm
    have lm' : m < ns.length := by omega
    obtain ⟨u, hu, t', e⟩ := r.get (i := m) (x := .int ns[m]) (by simp [lm'])
    refine ⟨ns[m], t', List.getElem?_eq_getElem lm', ?_⟩
    rw [← e, ← (List.getElem?_eq_some_iff.mp hu).2]
    simp
  refine call_meets PySem.F.slot_tuple_index ⟨_, ho, rfl⟩ PySem.F.entry_tuple_index (PySem.F.args_tuple_index_2 _ _) (TI.tuple_indexAt p its.toArray n dd sl (.int z t) (eqU (.int z)) j lj ?_ ?_)
    ⟨ho, fun y hy => mem_eqAt (x := .int z) ⟨t, rfl⟩ rfl r (flat_ints ns) y (by simpa using hy), ⟨.int (j : Nat), H, I.tok _, ⟨_, rfl⟩, q⟩⟩
  · obtain ⟨i, t', h1, h2⟩ := item j lj
    rw [hj] at h1
    cases h1
    rw [h2]
    show (z == z) = true
    exact beq_self_eq_true z
  · intro m lm lt
    obtain ⟨i, t', h1, h2⟩ := item m lm
    rw [h2]
    show (i == z) = false
    refine beq_eq_false_iff_ne.mpr fun e => ?_
    rw [e] at h1
    exact no m lt h1

def rCatF (K : Frag) : R2 := fun x y H Q => ∃ a b xs ys, x = .ref a ∧ y = .ref b ∧ SqT K H a xs ∧ SqT K H b ys ∧ xs.length + ys.length ≤ sizeLine ∧
  (xs = [] → Q (.ref b) H) ∧ (xs ≠ [] → ys = [] → Q (.ref a) H) ∧ (xs ≠ [] → ys ≠ [] → ∀ (p : Addr) (ob : Obj), H p = none → ob.dict = none → Q (.ref p) (upd H p (.frz ob (.tup (xs ++ ys)))))
theorem op_catF {X : Cx} : OpR X (binaryOp .Add) (rCatF X.K) := by
  intro pins s σ H x y v u Q I rx ry h
  obtain ⟨a, b, xs, ys, rfl, rfl, ha, hb, hz, q0, q1, q2⟩ := h
  cases rx
  cases ry
  obtain ⟨its, r1, p1, _⟩ := I.tuple ha
  obtain ⟨its2, r2, p2, _⟩ := I.tuple hb
  by_cases e : xs = []
  · have e' := r1.nil_iff.mpr e
    subst e'
    exact cat_tup0 p1 p2 ⟨.ref b, H, I, rfl, q0 e⟩
  · refine HT.cat_tup p1 p2 (fun z => e (r1.nil_iff.mp z)) (fun z => ⟨.ref a, H, I, rfl, q1 e (r2.nil_iff.mp z)⟩) (fun z => ?_) (by rw [← r1.length, ← r2.length]; exact hz)
    refine ⟨.ref s.heap.objs.size, _, I.laid (t' := s.toks) (o := .frz { cls := .type "tuple", data := .seq (its ++ its2).toArray } (.tup (xs ++ ys))) (fun b ob q => Heap.get?_push_of_some _ q) (Nat.le_refl _) ?_, rfl, q2 e (fun w => z (r2.nil_iff.mpr w)) _ _ (I.hok.fresh (Nat.le_refl _)) rfl⟩
    exact ⟨Heap.get?_push_size _ rfl, by rw [List.length_append]; exact hz, _, r1.append r2, IsTup.new _ _⟩
def rSlF (K : Frag) : V → Option Int → Option Int → Hp → VK → Prop := fun x lo hi H Q => ∃ a xs, x = .ref a ∧ SqT K H a xs ∧
  (HT.sIx xs.length 0 lo = 0 ∧ HT.sIx xs.length xs.length hi = xs.length → Q (.ref a) H) ∧ (¬ (HT.sIx xs.length 0 lo = 0 ∧ HT.sIx xs.length xs.length hi = xs.length) → ∀ (p : Addr) (ob : Obj), H p = none → ob.dict = none → Q (.ref p) (upd H p (.frz ob (.tup (cutV xs lo hi)))))
theorem sl_F {X : Cx} : SlR X (rSlF X.K) := by
  intro pins s σ H x v vl vu lo hi sl Q I rx hs pl pu h
  obtain ⟨a, xs, rfl, hx, qw, q⟩ := h
  cases rx
  obtain ⟨its, r, ht, hz⟩ := I.tuple hx
  have hlen : its.toArray.size = xs.length := by rw [List.size_toArray]; exact r.length.symm
  refine ⟨"tuple", _, PyProof.Rows.slot_tuple_getitem.lookup, ht.typeIs, ?_⟩
  by_cases hw : HT.sIx xs.length 0 lo = 0 ∧ HT.sIx xs.length xs.length hi = xs.length
  · exact getItem_tuple_whole ht hs pl pu (by rw [hlen]; exact hw) ⟨.ref a, H, I, rfl, qw hw⟩
  · refine HT.getItem_tuple_cut ht hs pl pu (by rw [hlen]; exact hw) ?_ (by rw [hlen]; exact hz)
    rw [hlen]
    refine ⟨.ref s.heap.objs.size, _, I.laid (t' := s.toks) (o := .frz { cls := .type "tuple", data := .seq ((its.drop (HT.sIx xs.length 0 lo)).take (HT.sIx xs.length xs.length hi - HT.sIx xs.length 0 lo)).toArray } (.tup (cutV xs lo hi))) (fun b ob q => Heap.get?_push_of_some _ q) (Nat.le_refl _) ?_, rfl, q hw _ _ (I.hok.fresh (Nat.le_refl _)) rfl⟩
    exact ⟨Heap.get?_push_size _ rfl, Nat.le_trans (cutV_length xs lo hi) hz, _, (r.drop (HT.sIx xs.length 0 lo)).take (HT.sIx xs.length xs.length hi - HT.sIx xs.length 0 lo), IsTup.new _ _⟩
end DL
namespace DL
open PySem PySem.Spec PyProof.Rows L2 LamX PySem.W SL
def okLen (ds : List D) (P : Prop) : Prop := match ds with
  | [] => P
  | [_] => P
  | [_, _] => P
  | [_, _, _] => P
  | [_, _, _, _] => P
  | [_, _, _, _, _] => P
  | _ => ds.length ≤ sizeLine ∧ P
theorem okLen.of {ds : List D} {P : Prop} (h : okLen ds P) : ds.length ≤ sizeLine ∧ P := by
  unfold okLen at h
  split at h <;> first | exact h | exact ⟨Nat.le_of_lt (small1000 (by simp)), h⟩
section
variable {T : List (Addr × Str)} {K : Frag} {M : Pl} {H : Hp} {st : DSt} {ds : List D} {xs : List V} {Q' : DK} {Q : VK} {p : Addr}
theorem Kn.tup {ob : Obj} (k : Kn T K M H Q' Q) (s : RS T K M st H) (r : RVs K M H ds xs) (np : H p = none) (hd : ob.dict = none) (q : Q' (.tup ds) st) : Q (.ref p) (upd H p (.frz ob (.tup xs))) :=
  k M _ st _ _ (Grow.new s.hid np) (s.new np) (.tup (s.notin np) upd_same hd (r.grow (Grow.new s.hid np))) q
theorem Kn.tuk (k : Kn T K M H Q' Q) (s : RS T K M st H) (r : RVs K M H ds xs) (np : H p = none) (q : Q' (.tuk ds) st) : Q (.ref p) (upd H p (.tup xs)) :=
  k M _ st _ _ (Grow.new s.hid np) (s.new np) (.tuk (s.notin np) upd_same (r.grow (Grow.new s.hid np))) q
theorem Kn.lst (k : Kn T K M H Q' Q) (s : RS T K M st H) (r : RVs K M H ds xs) (np : H p = none) (q : Q' (.lst ds) st) : Q (.ref p) (upd H p (.lst xs)) :=
  k M _ st _ _ (Grow.new s.hid np) (s.new np) (.lst (s.notin np) upd_same (r.grow (Grow.new s.hid np))) q
theorem Kn.own (k : Kn T K M H Q' Q) (s : RS T K M st H) (r : RVs K M H ds xs) (np : H p = none) (q : Q' (.ref st.length) (st ++ [.lst ds])) : Q (.ref p) (upd H p (.lst xs)) :=
  k (M.app [p]) _ (st ++ [.lst ds]) _ _ (Grow.place s.hid np) (s.place (u := .lst ds) np ⟨xs, upd_same, r.grow (Grow.place s.hid np)⟩) (.ref (by unfold Pl.at_; show (M.m ++ [p])[M.h + st.length]? = some p; rw [← s.len]; simp)) q
end
section
variable {T : List (Addr × Str)} {X : Cx} {a b c : Expr} {es : List Expr} {fa fb fc : DTE} {fs : DTA} {pos : Pos}
def tTupF (t : TA) : TE := fun σ H Q => t σ H fun xs H1 => xs.length ≤ sizeLine ∧ ∀ (p : Addr) (ob : Obj), H1 p = none → ob.dict = none → Q (.ref p) (upd H1 p (.frz ob (.tup xs)))
theorem pe_tupF {t : TA} {x1} (h : PA X es t) : PE X (.Tuple es x1 pos) (tTupF t) := by
  refine ⟨fun pins s σ H Q I hq => ?_⟩
  refine wpAny_Tuple_spliced (thn (h.run pos pins s σ H _ I hq) fun us s1 ⟨xs, H1, I1, r, z, q⟩ => ⟨by rw [← r.length]; exact z, ?_⟩)
  have hf : H1 s1.heap.objs.size = none := I1.hok.fresh (Nat.le_refl _)
  refine ⟨.ref s1.heap.objs.size, _, I1.laid (t' := s1.toks) (o := .frz { cls := .type "tuple", data := .seq us.toArray } (.tup xs)) (fun b u e => Heap.get?_push_of_some _ e) (Nat.le_refl _) ?_, rfl, q _ _ hf rfl⟩
  exact ⟨Heap.get?_push_size _ rfl, z, us, r, ⟨_, Heap.get?_push_size _ rfl, rfl, _, rfl⟩⟩
def dTup (f : DTA) : DTE := fun r st Q => f r st fun ds st1 => okLen ds (Q (.tup ds) st1)
def dLst (f : DTA) : DTE := fun r st Q => f r st fun ds st1 => okLen ds (Q (.lst ds) st1)
def dLstN (f : DTA) : DTE := fun r st Q => f r st fun ds st1 => okLen ds (Q (.ref st1.length) (st1 ++ [.lst ds]))
theorem de_tup {x1} (h : DA T X es fs) : DE T X (.Tuple es x1 pos) (dTup fs) := PE.imp (pe_tupF h) fun σ H Q ⟨M, ρ, st, Q', s, re, hf, k⟩ =>
  ⟨M, ρ, st, _, s, re, hf, fun M1 H1 st1 ds vs g1 s1 r1 h1 => by
    obtain ⟨z, q⟩ := okLen.of h1
    exact ⟨by rw [← r1.length]; exact z, fun p ob np hd => (k.grow g1).tup s1 r1 np hd q⟩⟩
theorem de_lst (h : DA T X es fs) : DE T X (.List es pos) (dLst fs) := PE.imp (pe_lst h) fun σ H Q ⟨M, ρ, st, Q', s, re, hf, k⟩ =>
  ⟨M, ρ, st, _, s, re, hf, fun M1 H1 st1 ds vs g1 s1 r1 h1 => by
    obtain ⟨z, q⟩ := okLen.of h1
    exact ⟨by rw [← r1.length]; exact z, fun p np => (k.grow g1).lst s1 r1 np q⟩⟩
theorem de_lstN (h : DA T X es fs) : DE T X (.List es pos) (dLstN fs) := PE.imp (pe_lst h) fun σ H Q ⟨M, ρ, st, Q', s, re, hf, k⟩ =>
  ⟨M, ρ, st, _, s, re, hf, fun M1 H1 st1 ds vs g1 s1 r1 h1 => by
    obtain ⟨z, q⟩ := okLen.of h1
    exact ⟨by rw [← r1.length]; exact z, fun p np => (k.grow g1).own s1 r1 np q⟩⟩
def CallD (T : List (Addr × Str)) (K : Frag) (r : List V → Hp → VK → Prop) (r' : DRs) : Prop := ∀ (M : Pl) (H : Hp) (st : DSt) (ds : List D) (vs : List V) (Q' : DK) (Q : VK), RS T K M st H → RVs K M H ds vs → r' ds st Q' → Kn T K M H Q' Q → r vs H Q
def dCB (r' : DRs) (fs : DTA) : DTE := fun ρ st Q => fs ρ st fun ds st1 => r' ds st1 Q
theorem lift_cb {K : Frag} {r : List V → Hp → VK → Prop} {r' : DRs} (hd : CallD T K r r') {σ : L2.St} {H : Hp} {Q : VK} (h : lift T K (dCB r' fs) σ H Q) : tCB r (liftA T K fs) σ H Q := by
  obtain ⟨M, ρ, st, Q', s, re, hf, k⟩ := h
  exact ⟨M, ρ, st, _, s, re, hf, fun M1 H1 st1 ds vs g1 s1 r1 h1 => hd M1 H1 st1 ds vs Q' Q s1 r1 h1 (k.grow g1)⟩
theorem de_callB {id : String} {x : Str} {p : Pos} {e : Expr} {r : List V → Hp → VK → Prop} {r' : DRs} (hc : CallR X (.builtin id) r) (hd : CallD T X.K r r') (hg : Gl X x) (hm : X.mg x = none) (hv : bootBuiltins x = some (.builtin id)) (ha : DA T X (e :: es) fs)
    (hn : x ≠ "__name__" := by decide) (hdb : (x == ("__debug__" : Str)) = false := by decide)
    (he : starEach (e :: es) X.env = (false, eval e X.env) :: starEach es X.env := by rfl) (hpl : (backTo pos (starEach es X.env)).any (·.1) = false := by rfl) : DE T X (.Call (.Name x p) (e :: es) [] pos) (dCB r' fs) :=
  PE.imp (pe_callB hc hg hm hv ha hn hdb he hpl) fun _ _ _ h => lift_cb hd h
theorem de_callTy {id : String} {x : Str} {p : Pos} {e : Expr} {r : List V → Hp → VK → Prop} {r' : DRs} (hc : CallR X (.type id) r) (hd : CallD T X.K r r') (hg : Gl X x) (hm : X.mg x = none) (hv : bootBuiltins x = some (.type id)) (ha : DA T X (e :: es) fs)
    (hn : x ≠ "__name__" := by decide) (hdb : (x == ("__debug__" : Str)) = false := by decide)
    (he : starEach (e :: es) X.env = (false, eval e X.env) :: starEach es X.env := by rfl) (hpl : (backTo pos (starEach es X.env)).any (·.1) = false := by rfl) : DE T X (.Call (.Name x p) (e :: es) [] pos) (dCB r' fs) :=
  PE.imp (pe_callTy hc hg hm hv ha hn hdb he hpl) fun _ _ _ h => lift_cb hd h
def on1 (ds : List D) (k : D → Prop) : Prop := match ds with | [x] => k x | _ => False
def on2 (ds : List D) (k : D → D → Prop) : Prop := match ds with | [x, y] => k x y | _ => False
theorem on1.of {ds : List D} {k : D → Prop} (h : on1 ds k) : ∃ x, ds = [x] ∧ k x := by
  match ds, h with
  | [x], h => exact ⟨x, rfl, h⟩
  | [], h => exact h.elim
  | _ :: _ :: _, h => exact h.elim
theorem on2.of {ds : List D} {k : D → D → Prop} (h : on2 ds k) : ∃ x y, ds = [x, y] ∧ k x y := by
  match ds, h with
  | [x, y], h => exact ⟨x, y, rfl, h⟩
  | [], h => exact h.elim
  | [_], h => exact h.elim
  | _ :: _ :: _ :: _, h => exact h.elim
theorem RVs.one {K : Frag} {M : Pl} {H : Hp} {x : D} {vs : List V} (r : RVs K M H [x] vs) : ∃ v, vs = [v] ∧ RV K M H x v := by
  cases r with
  | cons h t => cases t; exact ⟨_, rfl, h⟩
theorem RVs.two {K : Frag} {M : Pl} {H : Hp} {x y : D} {vs : List V} (r : RVs K M H [x, y] vs) : ∃ v w, vs = [v, w] ∧ RV K M H x v ∧ RV K M H y w := by
  cases r with
  | cons h t => obtain ⟨w, rfl, q⟩ := t.one; exact ⟨_, _, rfl, h, q⟩
def dLen : DRs := fun ds st Q => on1 ds fun x => onO (seqS st x) fun xs => Q (.int xs.length) st
theorem callD_len {K : Frag} : CallD T K (fun xs H Q => ∃ p ys, xs = [.ref p] ∧ (SqL K H p ys ∨ SqT K H p ys) ∧ Q (.int ys.length) H) dLen := by
  intro M H st ds vs Q' Q s r h k
  obtain ⟨x, rfl, h⟩ := on1.of h
  obtain ⟨xs, e, h⟩ := onO.of h
  obtain ⟨v, rfl, rv⟩ := r.one
  obtain ⟨p, ys, rfl, sq, rs⟩ := seqS.rd s rv e
  refine ⟨p, ys, rfl, sq, ?_⟩
  rw [← rs.length]
  exact k.here s (.int _) h
def dAbs : DRs := fun ds st Q => on1 ds fun x => onI x fun i => Q (.int (if i < 0 then -i else i)) st
theorem callD_abs {K : Frag} : CallD T K (fun xs H Q => ∃ i, xs = [V.int i] ∧ Q (.int (if i < 0 then -i else i)) H) dAbs := by
  intro M H st ds vs Q' Q s r h k
  obtain ⟨x, rfl, h⟩ := on1.of h
  obtain ⟨i, rfl, h⟩ := onI.of h
  obtain ⟨v, rfl, rv⟩ := r.one
  cases rv
  exact ⟨i, rfl, k.here s (.int _) h⟩
def d2I (g : Int → Int → Int) : DRs := fun ds st Q => on2 ds fun x y => onI x fun i => onI y fun j => Q (.int (g i j)) st
theorem callD_2I {K : Frag} {g : Int → Int → Int} : CallD T K (fun xs H Q => ∃ i j, xs = [V.int i, V.int j] ∧ Q (.int (g i j)) H) (d2I g) := by
  intro M H st ds vs Q' Q s r h k
  obtain ⟨x, y, rfl, h⟩ := on2.of h
  obtain ⟨i, rfl, h⟩ := onI.of h
  obtain ⟨j, rfl, h⟩ := onI.of h
  obtain ⟨v, w, rfl, rv, rw'⟩ := r.two
  cases rv
  cases rw'
  exact ⟨i, j, rfl, k.here s (.int _) h⟩
abbrev dMax2 : DRs := d2I fun i j => if j > i then j else i
abbrev dMin2 : DRs := d2I fun i j => if j < i then j else i
def dTuple : DRs := fun ds st Q => on1 ds fun x => match x with
  | .tup xs => Q (.tup xs) st
  | .tuk xs => Q (.tuk xs) st
  | .lst xs => Q (.tup xs) st
  | .ref n => onO (seqS st (.ref n)) fun xs => Q (.tup xs) st
  | _ => False
def rTup2 (K : Frag) : List V → Hp → VK → Prop := fun xs H Q => rTupF K xs H Q ∨ ∃ a ys, xs = [.ref a] ∧ SqT K H a ys ∧ Q (.ref a) H
theorem call_tup2 : CallR X (.type "tuple") (rTup2 X.K) := CallR.or call_tupF call_tupleT
theorem callD_tup {K : Frag} : CallD T K (rTup2 K) dTuple := by
  intro M H st ds vs Q' Q s r h k
  obtain ⟨x, rfl, h⟩ := on1.of h
  obtain ⟨v, rfl, rv⟩ := r.one
  cases x with
  | tup xs => cases rv with | tup n e q rs => exact .inr ⟨_, _, rfl, .inl (.inr ⟨_, e⟩), k.here s (.tup n e q rs) h⟩
  | tuk xs => cases rv with | tuk n e rs => exact .inr ⟨_, _, rfl, .inl (.inl e), k.here s (.tuk n e rs) h⟩
  | lst xs => cases rv with
    | lst n e rs => exact .inl ⟨_, _, rfl, .inl (.inl e), fun l o nl hd => k.tup s rs nl hd h⟩
  | ref n =>
    obtain ⟨xs, e, h⟩ := onO.of h
    have rr := rv
    cases rv with
    | ref hm =>
      obtain ⟨o, e1, ro⟩ := s.atM hm
      unfold seqS at e
      simp only [e1] at e
      cases o with
      | lst zs => cases e; obtain ⟨ys, q, rs⟩ := ro; exact .inl ⟨_, ys, rfl, .inl (.inl q), fun l o nl hd => k.tup s rs nl hd h⟩
      | dK _ => cases e
      | dT _ => cases e
  | _ => exact h.elim
def dListT : DRs := fun ds st Q => on1 ds fun x => onO (seqS st x) fun xs => Q (.lst xs) st
def dListN : DRs := fun ds st Q => on1 ds fun x => onO (seqS st x) fun xs => Q (.ref st.length) (st ++ [.lst xs])
theorem callD_listN {K : Frag} : CallD T K (fun xs H Q => ∃ p ys, xs = [.ref p] ∧ (SqL K H p ys ∨ SqT K H p ys) ∧ ∀ l, H l = none → Q (.ref l) (upd H l (.lst ys))) dListN := by
  intro M H st ds vs Q' Q s r h k
  obtain ⟨x, rfl, h⟩ := on1.of h
  obtain ⟨xs, e, h⟩ := onO.of h
  obtain ⟨v, rfl, rv⟩ := r.one
  obtain ⟨p, ys, rfl, sq, rs⟩ := seqS.rd s rv e
  exact ⟨p, ys, rfl, sq, fun l nl => k.own s rs nl h⟩
def boolsD : List D → Option (List Bool)
  | [] => some []
  | .bl b :: r => (boolsD r).map (b :: ·)
  | _ => none
theorem boolsD_of : ∀ {ds : List D} {bs : List Bool}, boolsD ds = some bs → ds = bs.map D.bl
  | [], bs, h => by cases h; rfl
  | .bl b :: r, bs, h => by
    unfold boolsD at h
    cases q : boolsD r with
    | none => rw [q] at h; cases h
    | some cs => rw [q] at h; cases h; rw [boolsD_of q]; rfl
  | .non :: r, bs, h => by cases h
  | .int _ :: r, bs, h => by cases h
  | .str _ :: r, bs, h => by cases h
  | .tup _ :: r, bs, h => by cases h
  | .tuk _ :: r, bs, h => by cases h
  | .lst _ :: r, bs, h => by cases h
  | .scr _ :: r, bs, h => by cases h
  | .ref _ :: r, bs, h => by cases h
theorem boolsD_map {α : Type} (g : α → Bool) : ∀ xs : List α, boolsD (xs.map fun x => D.bl (g x)) = some (xs.map g)
  | [] => rfl
  | x :: r => by rw [List.map_cons, List.map_cons]; unfold boolsD; rw [boolsD_map g r]; rfl
def dAllR (g : List Bool → Bool) : DRs := fun ds st Q => on1 ds fun x => match x with
  | .lst xs => onO (boolsD xs) fun bs => Q (.bl (g bs)) st
  | _ => False
theorem callD_all {K : Frag} (g : List Bool → Bool) : CallD T K (fun vs H Q => ∃ (a : Addr) (bs : List Bool), vs = [V.ref a] ∧ SqL K H a (bs.map V.bl) ∧ Q (.bl (g bs)) H) (dAllR g) := by
  intro M H st ds vs Q' Q s r h k
  obtain ⟨x, rfl, h⟩ := on1.of h
  obtain ⟨v, rfl, rv⟩ := r.one
  cases x with
  | lst xs =>
    obtain ⟨bs, e, h2⟩ := onO.of h
    have z := boolsD_of e
    subst z
    cases rv with
    | lst n e1 rs => have z := rs.bls; subst z; exact ⟨_, bs, rfl, .inl (.inl e1), k.here s (.bl _) h2⟩
  | _ => exact h.elim
abbrev dAll : DRs := dAllR fun bs => bs.all id
def dIx : DR2 := fun x y st Q => onO (seqS st x) fun ds => onI y fun i => onO (atI ds i) fun d => Q d st
theorem RVs.atI {K : Frag} {M : Pl} {H : Hp} {ds : List D} {xs : List V} (r : RVs K M H ds xs) {i : Int} {d : D} (h : L2.atI ds i = some d) : ∃ v, L2.atI xs i = some v ∧ RV K M H d v := by
  unfold L2.atI at h ⊢
  rw [← r.length]
  cases q : ixN ds.length i with
  | none => rw [q] at h; cases h
  | some j =>
    rw [q] at h
    obtain ⟨v, e, rv⟩ := r.get (i := j) (d := d) h
    exact ⟨v, e, rv⟩
theorem opD_ix {K : Frag} : OpD T K (rIx K) dIx := by
  intro M H st x y vx vy Q' Q s rx ry h k
  obtain ⟨ds, e, h⟩ := onO.of h
  obtain ⟨i, rfl, h⟩ := onI.of h
  obtain ⟨d, e2, h⟩ := onO.of h
  obtain ⟨p, xs, rfl, sq, rs⟩ := seqS.rd s rx e
  cases ry
  obtain ⟨v, e3, rv⟩ := rs.atI e2
  rcases sq with sq | sq
  · exact .inl ⟨p, xs, i, v, rfl, rfl, sq, e3, k.here s rv h⟩
  · exact .inr (.inl ⟨p, xs, i, v, rfl, rfl, sq, e3, k.here s rv h⟩)
theorem de_ix (ha : DE T X a fa) (hb : DE T X b fb) (hs : PlainIx b) : DE T X (.Subscript a b pos) (dOp dIx fa fb) := PE.imp (pe_ix ix_seq ha hb hs) fun _ _ _ h => lift2 opD_ix h
end
end DL
namespace DL
open PySem PySem.Spec PyProof.Rows L2 LamX PySem.W SL
mutual
def pdT : D → Option PyData
  | .non => some .none
  | .bl b => some (.bool b)
  | .int i => some (.int i)
  | .str x => some (.str x)
  | .tup ds => (pdTs ds).map .tuple
  | .tuk ds => (pdTs ds).map .tuple
  | .lst ds => (pdTs ds).map .list
  | .scr ds => (pdTs ds).map .list
  | .ref _ => none
def pdTs : List D → Option (List PyData)
  | [] => some []
  | d :: ds => match pdT d with
    | none => none
    | some p => (pdTs ds).map (p :: ·)
end
def pdS (st : DSt) : D → Option PyData
  | .ref n => match st[n]? with
    | some (.lst ds) => (pdTs ds).map .list
    | _ => none
  | d => pdT d
mutual
theorem pdT_dp {K : Frag} {M : Pl} {H : Hp} : ∀ {d : D} {v : V} {p : PyData}, RV K M H d v → pdT d = some p → Dp K H v p
  | _, _, _, .non, e => by simp only [pdT, Option.some.injEq] at e; subst e; exact .non
  | _, _, _, .bl b, e => by simp only [pdT, Option.some.injEq] at e; subst e; exact .bl b
  | _, _, _, .int b, e => by simp only [pdT, Option.some.injEq] at e; subst e; exact .int b
  | _, _, _, .str b, e => by simp only [pdT, Option.some.injEq] at e; subst e; exact .str b
  | _, _, _, .tup (ds := ds) n h q r, e => by
    simp only [pdT, Option.map_eq_some_iff] at e
    obtain ⟨ps, e, rfl⟩ := e
    exact .tup (.inl (.inr ⟨_, h⟩)) (pdTs_dp r e)
  | _, _, _, .tuk n h r, e => by
    simp only [pdT, Option.map_eq_some_iff] at e
    obtain ⟨ps, e, rfl⟩ := e
    exact .tup (.inl (.inl h)) (pdTs_dp r e)
  | _, _, _, .lst n h r, e => by
    simp only [pdT, Option.map_eq_some_iff] at e
    obtain ⟨ps, e, rfl⟩ := e
    exact .lst (.inl (.inl h)) (pdTs_dp r e)
  | _, _, _, .scr n h r, e => by
    simp only [pdT, Option.map_eq_some_iff] at e
    obtain ⟨ps, e, rfl⟩ := e
    exact .lst (.inl h) (pdTs_dp r e)
  | _, _, _, .lsk h r, e => by
    simp only [pdT, Option.map_eq_some_iff] at e
    obtain ⟨ps, e, rfl⟩ := e
    exact .lst (h H) (pdTs_dp r e)
  | _, _, _, .ref h, e => by simp [pdT] at e
theorem pdTs_dp {K : Frag} {M : Pl} {H : Hp} : ∀ {d : List D} {v : List V} {p : List PyData}, RVs K M H d v → pdTs d = some p → DpAll K H v p
  | _, _, _, .nil, e => by simp only [pdTs, Option.some.injEq] at e; subst e; exact .nil
  | _, _, _, .cons (d := d) h t, e => by
    unfold pdTs at e
    cases q : pdT d with
    | none => rw [q] at e; cases e
    | some y =>
      rw [q] at e
      simp only [Option.map_eq_some_iff] at e
      obtain ⟨ps, e, rfl⟩ := e
      exact .cons (pdT_dp h q) (pdTs_dp t e)
end
theorem pdS_dp {T : List (Addr × Str)} {K : Frag} {M : Pl} {H : Hp} {st : DSt} {d : D} {v : V} {p : PyData} (s : RS T K M st H) (r : RV K M H d v) (e : pdS st d = some p) : Dp K H v p := by
  cases d with
  | ref n =>
    cases r with
    | ref h =>
      obtain ⟨o, e1, ro⟩ := s.atM h
      unfold pdS at e
      simp only [e1] at e
      cases o with
      | lst zs =>
        simp only [Option.map_eq_some_iff] at e
        obtain ⟨ps, e, rfl⟩ := e
        obtain ⟨ys, q, rs⟩ := ro
        exact .lst (.inl (.inl q)) (pdTs_dp rs e)
      | dK _ => cases e
      | dT _ => cases e
  | _ => exact pdT_dp r e
structure El (k c : Nat) (d : PyData) : Prop where
  sh : d.showable = true
  dp : d.depth ≤ k
  ln : d.shown.length ≤ c
  cl : d.canLay0 = true
theorem El.mono {k c k' c' : Nat} {d : PyData} (h : El k c d) (hk : k ≤ k') (hc : c ≤ c') : El k' c' d := ⟨h.sh, Nat.le_trans h.dp hk, Nat.le_trans h.ln hc, h.cl⟩
theorem el_all {k c : Nat} : ∀ {ds : List PyData}, (∀ x ∈ ds, El k c x) → PyData.showableAll ds = true ∧ PyData.depthAll ds ≤ k ∧ ((PyData.shownAll ds).map (·.length)).sum ≤ ds.length * c ∧ (PyData.shownAll ds).length = ds.length ∧ PyData.canLayAll0 ds = true
  | [], _ => by simp [PyData.showableAll, PyData.depthAll, PyData.shownAll, PyData.canLayAll0]
  | d :: ds, h => by
    obtain ⟨a, b, e, f, g⟩ := el_all (ds := ds) fun x hx => h x (List.mem_cons_of_mem _ hx)
    have h1 := h d List.mem_cons_self
    refine ⟨?_, ?_, ?_, ?_, ?_⟩
    · simp only [PyData.showableAll, h1.sh, a, Bool.and_self]
    · simp only [PyData.depthAll]
      have := h1.dp
      omega
    · simp only [PyData.shownAll, List.map_cons, List.sum_cons, List.length_cons]
      have := h1.ln
      rw [Nat.succ_mul]
      omega
    · simp only [PyData.shownAll, List.length_cons, f]
    · simp only [PyData.canLayAll0, h1.cl, g, Bool.and_self]
theorem el_tuple {k c m : Nat} {ds : List PyData} (h : ∀ x ∈ ds, El k c x) (l : ds.length ≤ m) : El (k + 1) (m * (c + 2) + 3) (.tuple ds) := by
  obtain ⟨a, b, e, f, g⟩ := el_all h
  have z := tupleText_len_le (PyData.shownAll ds)
  have z1 : ds.length * c ≤ m * c := Nat.mul_le_mul_right c l
  refine ⟨by simp only [PyData.showable]; exact a, by simp only [PyData.depth]; omega, ?_, by simp only [PyData.canLay0]; exact g⟩
  simp only [PyData.shown]
  rw [f] at z
  rw [Nat.mul_add]
  omega
theorem el_list {k c m : Nat} {ds : List PyData} (h : ∀ x ∈ ds, El k c x) (l : ds.length ≤ m) : El (k + 1) (m * (c + 2) + 3) (.list ds) := by
  obtain ⟨a, b, e, f, g⟩ := el_all h
  have z := listText_len_le (PyData.shownAll ds)
  have z1 : ds.length * c ≤ m * c := Nat.mul_le_mul_right c l
  refine ⟨by simp only [PyData.showable]; exact a, by simp only [PyData.depth]; omega, ?_, by simp only [PyData.canLay0]; exact g⟩
  simp only [PyData.shown]
  rw [f] at z
  rw [Nat.mul_add]
  omega
theorem el_int {i : Int} (h0 : -100 ≤ i) (h1 : i ≤ 1000) : El 0 20 (.int i) := by
  refine ⟨?_, by simp [PyData.depth], ?_, by simp [PyData.canLay0]⟩
  · simp only [PyData.showable]
    refine decide_eq_true ?_
    have z : i.natAbs ≤ 1000 := by omega
    have y : i.natAbs.log2 ≤ i.natAbs := Nat.log2_le_self _
    omega
  · have all : ((List.range 1101).all fun n => decide ((PyData.shown (.int ((n : Int) - 100))).length ≤ 20)) = true := by decide +kernel
    have z := List.all_eq_true.mp all (i + 100).toNat (List.mem_range.mpr (by omega))
    have e : (((i + 100).toNat : Nat) : Int) - 100 = i := by omega
    rw [e] at z
    exact of_decide_eq_true z
def Sm (k c : Nat) (d : D) : Prop := ∃ p, pdT d = some p ∧ El k c p
theorem Sm.mono {k c k' c' : Nat} {d : D} (h : Sm k c d) (hk : k ≤ k') (hc : c ≤ c') : Sm k' c' d := by
  obtain ⟨p, e, h⟩ := h
  exact ⟨p, e, h.mono hk hc⟩
theorem sm_all {k c : Nat} : ∀ {ds : List D}, (∀ x ∈ ds, Sm k c x) → ∃ ps, pdTs ds = some ps ∧ (∀ x ∈ ps, El k c x) ∧ ps.length = ds.length
  | [], _ => ⟨[], by simp [pdTs], by simp, rfl⟩
  | d :: ds, h => by
    obtain ⟨ps, e, a, l⟩ := sm_all (ds := ds) fun x hx => h x (List.mem_cons_of_mem _ hx)
    obtain ⟨p, e1, a1⟩ := h d List.mem_cons_self
    refine ⟨p :: ps, by simp [pdTs, e1, e], fun x hx => ?_, by simp [l]⟩
    rcases List.mem_cons.mp hx with z | z
    · rw [z]; exact a1
    · exact a x z
theorem sm_tup {k c m : Nat} {ds : List D} (h : ∀ x ∈ ds, Sm k c x) (l : ds.length ≤ m) : Sm (k + 1) (m * (c + 2) + 3) (.tup ds) := by
  obtain ⟨ps, e, a, l2⟩ := sm_all h
  exact ⟨.tuple ps, by simp [pdT, e], el_tuple a (by omega)⟩
theorem sm_lst {k c m : Nat} {ds : List D} (h : ∀ x ∈ ds, Sm k c x) (l : ds.length ≤ m) : Sm (k + 1) (m * (c + 2) + 3) (.lst ds) := by
  obtain ⟨ps, e, a, l2⟩ := sm_all h
  exact ⟨.list ps, by simp [pdT, e], el_list a (by omega)⟩
theorem sm_int {i : Int} (h0 : -100 ≤ i) (h1 : i ≤ 1000) : Sm 0 20 (.int i) := ⟨_, by simp [pdT], el_int h0 h1⟩
theorem Sm.shaped {k c : Nat} {p : PyData} (h : El k c p) (hk : k ≤ 50) : SeqAt.shaped p = true := by
  unfold SeqAt.shaped
  rw [h.cl, Bool.true_and]
  exact decide_eq_true (by have := h.dp; omega)
def dRepr : DRs := fun ds st Q => on1 ds fun x => onO (pdS st x) fun p => (p.showable = true ∧ p.depth ≤ 50 ∧ p.shown.length ≤ sizeLine) ∧ Q (.str p.shown) st
section
variable {T : List (Addr × Str)} {X : Cx} {a b c : Expr} {es : List Expr} {fa fb fc : DTE} {fs : DTA} {pos : Pos} {K : Frag}
def dEqD (neg : Bool) : DR2 := fun x y st Q => onO (pdS st x) fun p => onO (pdS st y) fun q => (SeqAt.shaped p = true ∧ SeqAt.shaped q = true) ∧ Q (.bl (if neg then !PyData.eqv p q else PyData.eqv p q)) st
def dEqG (neg : Bool) : DR2 := fun x y st Q => match x, y with
  | .int i, .int j => Q (.bl (if neg then !decide (i = j) else decide (i = j))) st
  | .bl i, .bl j => Q (.bl (if neg then !decide (i = j) else decide (i = j))) st
  | .str i, .str j => Q (.bl (if neg then !decide (i = j) else decide (i = j))) st
  | x, y => dEqD neg x y st Q
def rEq2 (K : Frag) : R2 := fun x y H Q => rEq x y H Q ∨ rEqD K x y H Q
def rNe2 (K : Frag) : R2 := fun x y H Q => rNe x y H Q ∨ rNeD K x y H Q
theorem opD_eq : OpD T K (rEq2 K) (dEqG false) := by
  intro M H st x y vx vy Q' Q s rx ry h k
  have gen : dEqD false x y st Q' → rEq2 K vx vy H Q := fun h => by
    obtain ⟨p, e1, h⟩ := onO.of h
    obtain ⟨q, e2, ⟨h1, h2⟩, h⟩ := onO.of h
    exact .inr ⟨p, q, pdS_dp s rx e1, pdS_dp s ry e2, h1, h2, k.here s (.bl _) h⟩
  unfold dEqG at h
  split at h
  · cases rx
    cases ry
    exact .inl ⟨rfl, by rw [dec_int]; exact k.here s (.bl _) (by simpa [BEq.beq] using h)⟩
  · cases rx
    cases ry
    exact .inl ⟨rfl, by rw [dec_bl]; exact k.here s (.bl _) (by simpa [BEq.beq] using h)⟩
  · cases rx
    cases ry
    refine .inl ⟨rfl, ?_⟩
    rename_i i j
    have e : decide (V.str i = V.str j) = decide (i = j) := by
      by_cases z : i = j
      · rw [z]; simp
      · rw [decide_eq_false z]; exact decide_eq_false fun q => z (by cases q; rfl)
    rw [e]
    exact k.here s (.bl _) h
  · exact gen h
theorem opD_ne : OpD T K (rNe2 K) (dEqG true) := by
  intro M H st x y vx vy Q' Q s rx ry h k
  have gen : dEqD true x y st Q' → rNe2 K vx vy H Q := fun h => by
    obtain ⟨p, e1, h⟩ := onO.of h
    obtain ⟨q, e2, ⟨h1, h2⟩, h⟩ := onO.of h
    exact .inr ⟨p, q, pdS_dp s rx e1, pdS_dp s ry e2, h1, h2, k.here s (.bl _) h⟩
  unfold dEqG at h
  split at h
  · cases rx
    cases ry
    exact .inl ⟨rfl, by rw [dec_int]; exact k.here s (.bl _) (by simpa [BEq.beq] using h)⟩
  · cases rx
    cases ry
    exact .inl ⟨rfl, by rw [dec_bl]; exact k.here s (.bl _) (by simpa [BEq.beq] using h)⟩
  · cases rx
    cases ry
    refine .inl ⟨rfl, ?_⟩
    rename_i i j
    have e : decide (V.str i = V.str j) = decide (i = j) := by
      by_cases z : i = j
      · rw [z]; simp
      · rw [decide_eq_false z]; exact decide_eq_false fun q => z (by cases q; rfl)
    rw [e]
    exact k.here s (.bl _) h
  · exact gen h
abbrev dEq : DR2 := dEqG false
abbrev dNe : DR2 := dEqG true
theorem op_eq2 (hu : X.A.units + 64 < cLine) : OpR X (compareOp .Eq) (rEq2 X.K) := OpR.or op_eq (op_eqD hu)
theorem op_ne2 (hu : X.A.units + 64 < cLine) : OpR X (compareOp .NotEq) (rNe2 X.K) := OpR.or op_ne (op_neD hu)
def flatD : D → Bool
  | .non => true
  | .bl _ => true
  | .int _ => true
  | .str _ => true
  | _ => false
def eqF : D → D → Bool
  | .non, .non => true
  | .bl a, .bl b => a == b
  | .bl a, .int b => (if a then 1 else 0) == b
  | .int a, .bl b => a == (if b then 1 else 0)
  | .int a, .int b => a == b
  | .str a, .str b => a == b
  | _, _ => false
theorem RV.flat {M : Pl} {H : Hp} {d : D} {v : V} (r : RV K M H d v) (h : flatD d = true) : flatV v = true := by cases r <;> first | rfl | cases h
theorem RV.eqF {M : Pl} {H : Hp} {d e : D} {v w : V} (r : RV K M H d v) (q : RV K M H e w) (h1 : flatD d = true) (h2 : flatD e = true) : eqV v w = DL.eqF d e := by
  cases r <;> cases q <;> first | rfl | cases h1 | cases h2
theorem RVs.flat {M : Pl} {H : Hp} : ∀ {ds : List D} {vs : List V}, RVs K M H ds vs → ds.all flatD = true → vs.all flatV = true
  | _, _, .nil, _ => rfl
  | _, _, .cons h t, e => by
    rw [List.all_cons, Bool.and_eq_true] at e ⊢
    exact ⟨h.flat e.1, RVs.flat t e.2⟩
theorem RVs.inF {M : Pl} {H : Hp} {x : D} {v : V} (r : RV K M H x v) (hx : flatD x = true) : ∀ {ds : List D} {vs : List V}, RVs K M H ds vs → ds.all flatD = true → inV v vs = ds.any fun y => DL.eqF y x
  | _, _, .nil, _ => rfl
  | _, _, .cons h t, e => by
    rw [List.all_cons, Bool.and_eq_true] at e
    have z := RVs.inF r hx t e.2
    unfold inV at z ⊢
    rw [List.any_cons, List.any_cons, z, h.eqF r e.1 hx]
def dInG (neg : Bool) : DR2 := fun x y st Q => onO (seqS st y) fun ds => (flatD x = true ∧ ds.all flatD = true) ∧ Q (.bl (if neg then !(ds.any fun y => eqF y x) else ds.any fun y => eqF y x)) st
theorem opD_in (neg : Bool) : OpD T K (rIn K neg) (dInG neg) := by
  intro M H st x y vx vy Q' Q s rx ry h k
  obtain ⟨ds, e, ⟨h1, h2⟩, h⟩ := onO.of h
  obtain ⟨p, xs, rfl, sq, rs⟩ := seqS.rd s ry e
  refine ⟨p, xs, rfl, sq, rx.flat h1, rs.flat h2, ?_⟩
  rw [rs.inF rx h1 h2]
  exact k.here s (.bl _) h
abbrev dIn : DR2 := dInG false
abbrev dNotIn : DR2 := dInG true
def dChain (r r' : DR2) (fa fb fc : DTE) : DTE := fun ρ st Q => fa ρ st fun x st1 => fb ρ st1 fun y st2 => r x y st2 fun z st3 => onB z fun k => if k = true then fc ρ st3 fun w st4 => r' y w st4 Q else Q (.bl false) st3
end
end DL
namespace DL
open PySem PySem.Spec PyProof.Rows L2 LamX PySem.W SL
structure DEnds where
  nx : DEnv → DSt → Prop
  rt : DK
  bk : DEnv → DSt → Prop := fun _ _ => False
  ct : DEnv → DSt → Prop := fun _ _ => False
abbrev DTS := DEnds → DEnv → DSt → Prop
def KnE (T : List (Addr × Str)) (K : Frag) (M : Pl) (H : Hp) (N : DEnv → DSt → Prop) (N' : L2.St → Hp → Prop) : Prop :=
  ∀ M' H' σ' r' st', Grow M H M' H' → RS T K M' st' H' → RE K M' H' r' σ' → N r' st' → N' σ' H'
structure KnS (T : List (Addr × Str)) (K : Frag) (M : Pl) (H : Hp) (E : DEnds) (E' : Ends) : Prop where
  nx : KnE T K M H E.nx E'.nx
  rt : Kn T K M H E.rt E'.rt
  bk : KnE T K M H E.bk E'.bk
  ct : KnE T K M H E.ct E'.ct
theorem KnE.grow {T : List (Addr × Str)} {K : Frag} {M M1 : Pl} {H H1 : Hp} {N : DEnv → DSt → Prop} {N' : L2.St → Hp → Prop} (k : KnE T K M H N N') (g : Grow M H M1 H1) : KnE T K M1 H1 N N' :=
  fun M' H' σ' r' st' g1 s re q => k M' H' σ' r' st' (g.trans g1) s re q
theorem KnE.here {T : List (Addr × Str)} {K : Frag} {M : Pl} {H : Hp} {N : DEnv → DSt → Prop} {N' : L2.St → Hp → Prop} {σ : L2.St} {r : DEnv} {st : DSt} (k : KnE T K M H N N') (s : RS T K M st H) (re : RE K M H r σ) (q : N r st) : N' σ H :=
  k M H σ r st (Grow.refl M H) s re q
theorem KnS.grow {T : List (Addr × Str)} {K : Frag} {M M1 : Pl} {H H1 : Hp} {E : DEnds} {E' : Ends} (k : KnS T K M H E E') (g : Grow M H M1 H1) : KnS T K M1 H1 E E' := ⟨k.nx.grow g, k.rt.grow g, k.bk.grow g, k.ct.grow g⟩
def liftS (T : List (Addr × Str)) (K : Frag) (F : DTS) : TS := fun E σ H => ∃ M r st E', RS T K M st H ∧ RE K M H r σ ∧ F E' r st ∧ KnS T K M H E' E
abbrev DSt1 (T : List (Addr × Str)) (X : Cx) (s : Stmt) (F : DTS) : Prop := PS X s (liftS T X.K F)
abbrev DSs (T : List (Addr × Str)) (X : Cx) (s : List Stmt) (F : DTS) : Prop := PSs X s (liftS T X.K F)
def sNext : DTS := fun E r st => E.nx r st
def sSeq (F G : DTS) : DTS := fun E r st => F { E with nx := G E } r st
def sNever : DTS := fun _ _ _ => False
def sDrop (f : DTE) : DTS := fun E r st => f r st fun _ st1 => E.nx r st1
def sRet (f : DTE) : DTS := fun E r st => f r st E.rt
def sRetN : DTS := fun E _ st => E.rt .non st
def sIf (t : DTT) (F G : DTS) : DTS := fun E r st => t r st fun b st1 => if b = true then F E r st1 else G E r st1
section
variable {T : List (Addr × Str)} {X : Cx} {st : Stmt} {rest : List Stmt} {F G : DTS} {e : Expr} {f : DTE} {pos : Pos}
theorem ds_nil : DSs T X [] sNext := PSs.imp pss_nil fun E σ H ⟨M, r, st, E', s, re, h, k⟩ => k.nx.here s re h
theorem ds_cons (h1 : DSt1 T X st F) (h2 : DSs T X rest G) : DSs T X (st :: rest) (sSeq F G) := PSs.imp (pss_cons h1 h2) fun E σ H ⟨M, r, st, E', s, re, h, k⟩ =>
  ⟨M, r, st, _, s, re, h, fun M1 H1 σ1 r1 st1 g1 s1 re1 q => ⟨M1, r1, st1, E', s1, re1, q, k.grow g1⟩, k.rt, k.bk, k.ct⟩
theorem ds_one (h1 : DSt1 T X st F) : DSs T X [st] F := pss_one h1
theorem ds_never : DSt1 T X st sNever := PS.imp ps_never fun E σ H ⟨M, r, st, E', s, re, h, k⟩ => h.elim
theorem ds_expr (he : DE T X e f) (hs : swapsWith e none pos.line X.env = pure false := by rfl) : DSt1 T X (.Expr e pos) (sDrop f) := PS.imp (ps_expr he hs) fun E σ H ⟨M, r, st, E', s, re, h, k⟩ =>
  ⟨M, r, st, _, s, re, h, fun M1 H1 st1 d v g1 s1 r1 q => k.nx M1 H1 σ r st1 g1 s1 (re.grow g1) q⟩
theorem ds_ret (he : DE T X e f) : DSt1 T X (.Return (some e) pos) (sRet f) := PS.imp (ps_ret he) fun E σ H ⟨M, r, st, E', s, re, h, k⟩ => ⟨M, r, st, _, s, re, h, k.rt⟩
theorem ds_if {c : Expr} {a b : List Stmt} {t : DTT} (hc : DT T X c t) (ha : DSs T X a F) (hb : DSs T X b G) : DSt1 T X (.If c a b pos) (sIf t F G) := PS.imp (ps_if hc ha hb) fun E σ H ⟨M, r, st, E', s, re, h, k⟩ =>
  ⟨M, r, st, _, s, re, h, fun M1 H1 st1 c g1 s1 q => by
    cases c with
    | true => rw [if_pos rfl] at q ⊢; exact ⟨M1, r, st1, E', s1, re.grow g1, q, k.grow g1⟩
    | false => rw [if_neg (by decide)] at q ⊢; exact ⟨M1, r, st1, E', s1, re.grow g1, q, k.grow g1⟩⟩
end
abbrev DTG := D → DEnv → DSt → (DEnv → DSt → Prop) → Prop
abbrev DTGs := List D → DEnv → DSt → (DEnv → DSt → Prop) → Prop
def liftG (T : List (Addr × Str)) (K : Frag) (vs : List Nat) (g : DTG) : TG := fun v σ H Q => ∃ M r st d Q', RS T K M st H ∧ RE K M H r σ ∧ RV K M H d v ∧ g d r st Q' ∧
  ∀ M' H' σ' r' st', Grow M H M' H' → RS T K M' st' H' → RE K M' H' r' σ' → wipe σ' vs = wipe σ vs → Q' r' st' → Q σ' H'
def liftGs (T : List (Addr × Str)) (K : Frag) (vs : List Nat) (g : DTGs) : TGs := fun v σ H Q => ∃ M r st d Q', RS T K M st H ∧ RE K M H r σ ∧ RVs K M H d v ∧ g d r st Q' ∧
  ∀ M' H' σ' r' st', Grow M H M' H' → RS T K M' st' H' → RE K M' H' r' σ' → wipe σ' vs = wipe σ vs → Q' r' st' → Q σ' H'
theorem PG.imp {X : Cx} {e : Expr} {t t' : TG} (h : PG X e t) (i : ∀ v σ H Q, t' v σ H Q → t v σ H Q) : PG X e t' := ⟨fun pins s σ H v u Q I r z => h.run pins s σ H v u Q I r (i v σ H Q z)⟩
theorem PGs.imp {X : Cx} {e : List Expr} {t t' : TGs} (h : PGs X e t) (i : ∀ v σ H Q, t' v σ H Q → t v σ H Q) : PGs X e t' := ⟨fun pins s σ H v u Q I r z => h.run pins s σ H v u Q I r (i v σ H Q z)⟩
abbrev DG (T : List (Addr × Str)) (X : Cx) (vs : List Nat) (e : Expr) (g : DTG) : Prop := PG X e (liftG T X.K vs g)
abbrev DGs (T : List (Addr × Str)) (X : Cx) (vs : List Nat) (e : List Expr) (g : DTGs) : Prop := PGs X e (liftGs T X.K vs g)
theorem RE.set {K : Frag} {M : Pl} {H : Hp} {r : DEnv} {σ : L2.St} (h : RE K M H r σ) (i : Nat) {d : D} {v : V} (rv : RV K M H d v) : RE K M H (r.set i (some d)) (σ.set i (some v)) := by
  refine ⟨by rw [List.length_set, List.length_set]; exact h.len, fun j c e => ?_⟩
  by_cases q : j = i
  · subst q
    have lt : j < r.length := by
      have := (List.getElem?_eq_some_iff.mp e).1
      rw [List.length_set] at this
      exact this
    rw [List.getElem?_set_self lt] at e
    cases e
    exact ⟨v, List.getElem?_set_self (by rw [← h.len]; exact lt), rv⟩
  · rw [List.getElem?_set_ne (fun z => q z.symm)] at e ⊢
    exact h.at_ j c e
theorem wipe_set {σ : L2.St} {i : Nat} {x : Option V} : ∀ {vs : List Nat}, i ∈ vs → wipe (σ.set i x) vs = wipe σ vs
  | [], h => by cases h
  | v :: vs, h => by
    show (wipe (σ.set i x) vs).set v none = (wipe σ vs).set v none
    by_cases m : i ∈ vs
    · rw [wipe_set m]
    · rcases List.mem_cons.mp h with z | z
      · subst z
        have gen : ∀ (ws : List Nat) (τ : L2.St), i ∉ ws → wipe (τ.set i x) ws = (wipe τ ws).set i x := by
          intro ws
          induction ws with
          | nil => intro τ _; rfl
          | cons w ws ih =>
            intro τ hn
            rw [List.mem_cons, not_or] at hn
            show (wipe (τ.set i x) ws).set w none = ((wipe τ ws).set w none).set i x
            rw [ih τ hn.2, List.set_comm _ _ hn.1]
        rw [gen vs σ m, List.set_set]
      · exact absurd z m
def gNm (i : Nat) : DTG := fun d r st Q => Q (r.set i (some d)) st
def gsNil : DTGs := fun ds r st Q => match ds with | [] => Q r st | _ => False
def gsCons (g : DTG) (h : DTGs) : DTGs := fun ds r st Q => match ds with | d :: e => g d r st fun r1 st1 => h e r1 st1 Q | [] => False
def gTp (n : Nat) (g : DTGs) : DTG := fun d r st Q => match d with
  | .tup ds => ds.length = n ∧ g ds r st Q
  | .tuk ds => ds.length = n ∧ g ds r st Q
  | .lst ds => ds.length = n ∧ g ds r st Q
  | _ => False
theorem PG.or {X : Cx} {e : Expr} {t t' : TG} (h : PG X e t) (h' : PG X e t') : PG X e fun v σ H Q => t v σ H Q ∨ t' v σ H Q := ⟨fun pins s σ H v u Q I r z => by
  rcases z with z | z
  · exact h.run pins s σ H v u Q I r z
  · exact h'.run pins s σ H v u Q I r z⟩
section
variable {T : List (Addr × Str)} {X : Cx} {vs : List Nat} {pos : Pos}
theorem dg_name {i : Nat} {x : Str} (hN : X.N.Nodup) (hi : X.N[i]? = some x) (hx : Loc X.env.scope x) (m : i ∈ vs) (hf : X.fn x = true ∨ X.env.scope.names.lookup x = some .local := by first | exact .inl rfl | exact .inr rfl | assumption) : DG T X vs (.Name x pos) (gNm i) :=
  PG.imp (pg_name hN hi hx hf) fun v σ H Q ⟨M, r, st, d, Q', s, re, rv, h, k⟩ => k M H _ _ st (Grow.refl M H) s (re.set i rv) (wipe_set m) h
theorem dgs_nil : DGs T X vs [] gsNil := PGs.imp pgs_nil fun v σ H Q ⟨M, r, st, d, Q', s, re, rv, h, k⟩ => by
  cases d with
  | nil => cases rv; exact ⟨rfl, k M H σ r st (Grow.refl M H) s re rfl h⟩
  | cons _ _ => exact h.elim
theorem dgs_cons {e : Expr} {es : List Expr} {g : DTG} {h : DTGs} (h1 : DG T X vs e g) (h2 : DGs T X vs es h) (hs : (assignEach (e :: es) X.env).map (·.2) = assign e X.env :: (assignEach es X.env).map (·.2) := by rfl) : DGs T X vs (e :: es) (gsCons g h) :=
  PGs.imp (pgs_cons h1 h2 hs) fun v σ H Q ⟨M, r, st, d, Q', s, re, rv, h, k⟩ => by
    cases d with
    | nil => exact h.elim
    | cons d ds =>
      cases rv with
      | cons r1 rs => exact ⟨_, _, rfl, M, r, st, d, _, s, re, r1, h, fun M1 H1 σ1 r1' st1 g1 s1 re1 w1 q => ⟨M1, r1', st1, ds, Q', s1, re1, rs.grow g1, q, fun M2 H2 σ2 r2 st2 g2 s2 re2 w2 q2 => k M2 H2 σ2 r2 st2 (g1.trans g2) s2 re2 (w2.trans w1) q2⟩⟩
theorem dg_tup {es : List Expr} {k : Nat} {g : DTGs} {n : Nat} (hc : X.calm = true) (h : DGs T X vs es g) (hn : (assignEach es X.env).length = n := by rfl) (hst : (assignEach es X.env).findIdx? (·.1) = none := by rfl) : DG T X vs (.Tuple es k pos) (gTp n g) :=
  PG.imp (PG.or (pg_tup hc h hn hst) (pg_lst hc h hn hst)) fun v σ H Q ⟨M, r, st, d, Q', s, re, rv, hh, kk⟩ => by
    cases d with
    | tup ds => cases rv with | tup nn e q rs => exact .inl ⟨_, _, rfl, .inl (.inr ⟨_, e⟩), by rw [← rs.length]; exact hh.1, M, r, st, ds, Q', s, re, rs, hh.2, kk⟩
    | tuk ds => cases rv with | tuk nn e rs => exact .inl ⟨_, _, rfl, .inl (.inl e), by rw [← rs.length]; exact hh.1, M, r, st, ds, Q', s, re, rs, hh.2, kk⟩
    | lst ds => cases rv with | lst nn e rs => exact .inr ⟨_, _, rfl, .inl (.inl e), by rw [← rs.length]; exact hh.1, M, r, st, ds, Q', s, re, rs, hh.2, kk⟩
    | _ => exact hh.elim
def sSet (i : Nat) (f : DTE) : DTS := fun E r st => f r st fun d st1 => E.nx (r.set i (some d)) st1
theorem ds_set {i : Nat} {x : Str} {e : Expr} {f : DTE} {pos' : Pos} (hN : X.N.Nodup) (hi : X.N[i]? = some x) (hx : Loc X.env.scope x) (he : DE T X e f) (hs : swapsWith e (some (.Name x pos')) pos.line X.env = pure false := by rfl)
    (hf : X.fn x = true ∨ X.env.scope.names.lookup x = some .local := by first | exact .inl rfl | exact .inr rfl | assumption) : DSt1 T X (.Assign [.Name x pos'] e pos) (sSet i f) :=
  PS.imp (ps_set hN hi hx he hs hf) fun E σ H ⟨M, r, st, E', s, re, h, k⟩ => ⟨M, r, st, _, s, re, h, fun M1 H1 st1 d v g1 s1 r1 q => k.nx M1 H1 _ _ st1 g1 s1 ((re.grow g1).set i r1) q⟩
def sAsg (f : DTE) (g : DTG) : DTS := fun E r st => f r st fun d st1 => g d r st1 E.nx
theorem ds_asg {tg e : Expr} {f : DTE} {g : DTG} (he : DE T X e f) (hg : DG T X vs tg g) (hs : swapsWithSole [tg] e pos.line X.env = pure false := by rfl) (hw : swappedStores [tg] e X.env = pure none := by rfl) (h1 : (assignEach [tg] X.env).map (·.2) = [assign tg X.env] := by rfl) : DSt1 T X (.Assign [tg] e pos) (sAsg f g) :=
  PS.imp (ps_asg he hg hs hw h1) fun E σ H ⟨M, r, st, E', s, re, h, k⟩ => ⟨M, r, st, _, s, re, h, fun M1 H1 st1 d v g1 s1 r1 q =>
    ⟨M1, r, st1, d, _, s1, re.grow g1, r1, q, fun M2 H2 σ2 r2 st2 g2 s2 re2 _ q2 => k.nx M2 H2 σ2 r2 st2 (g1.trans g2) s2 re2 q2⟩⟩
def sPar (i j : Nat) (f : DTA) : DTS := fun E r st => f r st fun ds st1 => on2 ds fun d e => E.nx ((r.set i (some d)).set j (some e)) st1
theorem ds_par {i j : Nat} {x y : Str} {a b : Expr} {f : DTA} {px py pt : Pos} {kt k2 pt2} (hc : X.calm = true) (hN : X.N.Nodup) (hi : X.N[i]? = some x) (hj : X.N[j]? = some y) (hij : i ≠ j) (hx : X.env.scope.names.lookup x = some .local) (hy : X.env.scope.names.lookup y = some .local) (ha : DA T X [a, b] f)
    (hw : swappedStores [.Tuple [.Name x px, .Name y py] kt pt] (.Tuple [a, b] k2 pt2) X.env = pure (some [x, y])) (hs : swapsWithSole [.Tuple [.Name x px, .Name y py] kt pt] (.Tuple [a, b] k2 pt2) pos.line X.env = pure false := by rfl) :
    DSt1 T X (.Assign [.Tuple [.Name x px, .Name y py] kt pt] (.Tuple [a, b] k2 pt2) pos) (sPar i j f) :=
  PS.imp (ps_par hc hN hi hj hij hx hy ha hw hs) fun E σ H ⟨M, r, st, E', s, re, h, k⟩ => ⟨M, r, st, _, s, re, h, fun M1 H1 st1 ds vs g1 s1 r1 q => by
    obtain ⟨d, e, rfl, q⟩ := on2.of q
    obtain ⟨v, w, rfl, rv, rw'⟩ := r1.two
    exact ⟨v, w, rfl, k.nx M1 H1 _ _ st1 g1 s1 (((re.grow g1).set i rv).set j rw') q⟩⟩
def gSb (fo fi : DTE) : DTG := fun d r st Q => fo r st fun o st1 => fi r st1 fun i st2 => match o with
  | .ref n => onI i fun k => match st2[n]? with
    | some (.lst xs) => onO (ixN xs.length k) fun j => Q r (st2.set n (.lst (xs.set j d)))
    | _ => False
  | _ => False
theorem dg_sub {o i : Expr} {fo fi : DTE} (ho : DE T X o fo) (hi : DE T X i fi)
    (ha : ∀ v, assign (.Subscript o i pos) X.env v = (do let ov ← holding [v] (eval o X.env); let iv ← holding [v, ov] (eval i X.env); standAt pos; holding [v, ov, iv] (setItem ov iv v); release [v, ov, iv] []) := by intro _; rfl) : DG T X vs (.Subscript o i pos) (gSb fo fi) :=
  PG.imp (pg_sub ho hi set_list ha) fun v σ H Q ⟨M, r, st, d, Q', s, re, rv, h, k⟩ =>
    ⟨M, r, st, _, s, re, h, fun M1 H1 st1 o vo g1 s1 r1 q => ⟨M1, r, st1, _, s1, re.grow g1, q, fun M2 H2 st2 i vi g2 s2 r2 q2 => by
      cases o with
      | ref n =>
        obtain ⟨kk, rfl, q3⟩ := onI.of q2
        cases r2
        have r1' := r1.grow g2
        cases r1' with
        | ref hm =>
          split at q3
          · rename_i xs e1
            obtain ⟨j, e2, q4⟩ := onO.of q3
            obtain ⟨ys, hy, rs⟩ := s2.obj n _ _ hm e1
            refine ⟨_, ys, kk, j, rfl, rfl, hy, by rw [← rs.length]; exact e2, ?_⟩
            have gw : Grow M2 H2 M2 (upd H2 _ (.lst (ys.set j v))) := Grow.write s2.nd hm
            refine k M2 _ σ r _ ((g1.trans g2).trans gw) (s2.write (u := .lst (xs.set j d)) hm ⟨ys.set j v, upd_same, ?_⟩) ((re.grow (g1.trans g2)).grow gw) rfl q4
            exact ((rs.grow gw).set (((rv.grow g1).grow g2).grow gw) j)
          · exact q3.elim
      | _ => exact q2.elim⟩⟩
end
end DL
namespace DL
open PySem PySem.Spec PyProof.Rows L2 LamX PySem.W SL
structure Later (M : Pl) (H : Hp) (M' : Pl) (H' : Hp) : Prop where
  keep : ∀ a o, a ∉ M.m → H a = some o → (∀ ps, o ≠ .tbl ps) → H' a = some o
  get : ∀ n a, M.at_ n = some a → M'.at_ n = some a
  notin : ∀ a, a ∉ M.m → NT H a → a ∉ M'.m
theorem Grow.later {M M' : Pl} {H H' : Hp} (g : Grow M H M' H') : Later M H M' H' := ⟨g.keep, fun _ _ h => g.get h, fun _ h t => g.notin h t⟩
theorem Later.trans {M M1 M2 : Pl} {H H1 H2 : Hp} (a : Later M H M1 H1) (b : Later M1 H1 M2 H2) (th : ∀ a, NT H a → NT H1 a) : Later M H M2 H2 :=
  ⟨fun c o n h t => b.keep c o (a.notin c n ⟨o, h, t⟩) (a.keep c o n h t) t, fun n c h => b.get n c (a.get n c h), fun c n h => b.notin c (a.notin c n h) (th c h)⟩
theorem Rd.later {M M' : Pl} {H H' : Hp} (g : Later M H M' H') {a : Addr} {xs : List V} (n : a ∉ M.m) (r : Rd H a (.lst xs)) : Rd H' a (.lst xs) := by
  rcases r with r | ⟨o, r⟩
  · exact .inl (g.keep a _ n r (fun ps z => by cases z))
  · exact .inr ⟨o, g.keep a _ n r (fun ps z => by cases z)⟩
mutual
theorem RV.later {K : PySem.W.Frag} {M M' : Pl} {H H' : Hp} (g : Later M H M' H') : ∀ {d : D} {v : V}, RV K M H d v → RV K M' H' d v
  | _, _, .non => .non
  | _, _, .bl b => .bl b
  | _, _, .int i => .int i
  | _, _, .str x => .str x
  | _, _, .tup n h e r => .tup (g.notin _ n ⟨_, h, fun ps z => by cases z⟩) (g.keep _ _ n h (fun ps z => by cases z)) e (r.later g)
  | _, _, .tuk n h r => .tuk (g.notin _ n ⟨_, h, fun ps z => by cases z⟩) (g.keep _ _ n h (fun ps z => by cases z)) (r.later g)
  | _, _, .lst n h r => .lst (g.notin _ n ⟨_, h, fun ps z => by cases z⟩) (g.keep _ _ n h (fun ps z => by cases z)) (r.later g)
  | _, _, .scr n h r => .scr (g.notin _ n (Rd.there h)) (Rd.later g n h) (r.later g)
  | _, _, .lsk h r => .lsk h (r.later g)
  | _, _, .ref h => .ref (g.get _ _ h)
theorem RVs.later {K : PySem.W.Frag} {M M' : Pl} {H H' : Hp} (g : Later M H M' H') : ∀ {d : List D} {v : List V}, RVs K M H d v → RVs K M' H' d v
  | _, _, .nil => .nil
  | _, _, .cons h t => .cons (h.later g) (t.later g)
end
theorem RO.later {K : PySem.W.Frag} {M M' : Pl} {H H' : Hp} (g : Later M H M' H') {o : O} {a : Addr} (h : RO K M H o a) (e : H' a = H a) : RO K M' H' o a := by
  cases o with
  | lst ds => obtain ⟨xs, h1, h2⟩ := h; exact ⟨xs, e.trans h1, h2.later g⟩
  | dK kvs => obtain ⟨ys, h1, h2, h3⟩ := h; exact ⟨ys, e.trans h1, h2, h3.later g⟩
  | dT kvs => obtain ⟨ys, h1, h2, h3⟩ := h; exact ⟨ys, e.trans h1, h2, h3.later g⟩
def Pl.hide (M : Pl) (p : Addr) : Pl := ⟨M.h + 1, p :: M.m⟩
theorem Pl.hide_at (M : Pl) (p : Addr) (n : Nat) : (M.hide p).at_ n = M.at_ n := by
  unfold Pl.at_ Pl.hide
  show (p :: M.m)[M.h + 1 + n]? = M.m[M.h + n]?
  rw [show M.h + 1 + n = (M.h + n) + 1 by omega, List.getElem?_cons_succ]
theorem Pl.hide_app (M : Pl) (p : Addr) (m : List Addr) : (M.hide p).app m = (M.app m).hide p := rfl
theorem Pl.hide_inj {M N : Pl} {p : Addr} (h : M.hide p = N.hide p) : M = N := by
  cases M
  cases N
  unfold Pl.hide at h
  simp only [Pl.mk.injEq, List.cons.injEq, Nat.add_right_cancel_iff, true_and] at h
  rw [h.1, h.2]
theorem later_hide {M : Pl} {H : Hp} {p : Addr} {o : HO} (np : H p = none) : Later M H (M.hide p) (upd H p o) :=
  ⟨fun a u _ e _ => by rw [upd_ne (ne_of_none e np)]; exact e, fun n a h => by rw [Pl.hide_at]; exact h, fun a h t z => by
    rcases List.mem_cons.mp z with z | z
    · exact t.ne np z
    · exact h z⟩
theorem later_unhide {M : Pl} {H : Hp} {p : Addr} : Later (M.hide p) H M H :=
  ⟨fun _ _ _ e _ => e, fun n a h => by rw [← Pl.hide_at M p n]; exact h, fun a h _ z => h (List.mem_cons_of_mem _ z)⟩
theorem later_own {M : Pl} {H : Hp} {p : Addr} : Later (M.hide p) H (M.app [p]) H :=
  ⟨fun _ _ _ e _ => e, fun n a h => by
    rw [Pl.hide_at] at h
    unfold Pl.at_ at h ⊢
    show (M.m ++ [p])[M.h + n]? = some a
    rw [List.getElem?_append_left (List.getElem?_eq_some_iff.mp h).1]
    exact h, fun a h _ z => h (by
    rcases List.mem_append.mp z with z | z
    · exact List.mem_cons_of_mem _ z
    · rw [List.mem_singleton.mp z]; exact List.mem_cons_self)⟩
section
variable {T : List (Addr × Str)} {K : Frag} {M M' : Pl} {H H' : Hp} {st : DSt} {p : Addr}
theorem RS.hide (s : RS T K M st H) (np : H p = none) {xs : List V} : RS T K (M.hide p) st (upd H p (.lst xs)) := by
  refine ⟨by show (p :: M.m).length = M.h + 1 + st.length; rw [List.length_cons, s.len]; omega, List.nodup_cons.mpr ⟨s.notin np, s.nd⟩, fun n a o e1 e2 => ?_, tabs_upd s.tabs fun b u hb _ => ne_of_none hb np, fun a ha => ?_⟩
  · rw [Pl.hide_at] at e1
    exact (s.obj n a o e1 e2).later (later_hide np) (upd_ne fun z => s.notin np (by rw [← z]; exact Pl.at_mem e1))
  · have ha' : a ∈ (p :: M.m).take (M.h + 1) := ha
    rw [List.take_succ_cons] at ha'
    rcases List.mem_cons.mp ha' with z | z
    · rw [z]; exact ⟨xs, upd_same⟩
    · exact s.hid.upd np a z
theorem RS.unhide (s : RS T K (M.hide p) st H) : RS T K M st H := by
  have len : (p :: M.m).length = M.h + 1 + st.length := s.len
  rw [List.length_cons] at len
  refine ⟨by omega, (List.nodup_cons.mp s.nd).2, fun n a o e1 e2 => ?_, s.tabs, fun a ha => s.hid a ?_⟩
  · exact (s.obj n a o (by rw [Pl.hide_at]; exact e1) e2).later later_unhide rfl
  · show a ∈ (p :: M.m).take (M.h + 1)
    rw [List.take_succ_cons]
    exact List.mem_cons_of_mem _ ha
theorem RS.own {ds : List D} {xs : List V} (s : RS T K (M.hide p) st H) (hp : H p = some (.lst xs)) (r : RVs K (M.hide p) H ds xs) : RS T K (M.app [p]) (st ++ [.lst ds]) H := by
  have u := s.unhide
  refine ⟨?_, ?_, fun n a o e1 e2 => ?_, s.tabs, fun a ha => ?_⟩
  · show (M.m ++ [p]).length = M.h + (st ++ [O.lst ds]).length
    rw [List.length_append, List.length_append, u.len, Nat.add_assoc]
    rfl
  · show (M.m ++ [p]).Nodup
    rw [List.nodup_append]
    refine ⟨u.nd, by simp, fun a ha b hb => ?_⟩
    rw [List.mem_singleton.mp hb]
    exact fun z => (List.nodup_cons.mp s.nd).1 (z ▸ ha)
  · have e1' : (M.m ++ [p])[M.h + n]? = some a := e1
    by_cases lt : n < st.length
    · rw [List.getElem?_append_left (by rw [u.len]; omega)] at e1'
      rw [List.getElem?_append_left lt] at e2
      exact (s.obj n a o (by rw [Pl.hide_at]; exact e1') e2).later later_own rfl
    · rw [List.getElem?_append_right (by rw [u.len]; omega)] at e1'
      rw [List.getElem?_append_right (by omega)] at e2
      have n0 : M.h + n - M.m.length = 0 := by
        have := (List.getElem?_eq_some_iff.mp e1').1
        simp at this
        omega
      have n1 : n - st.length = 0 := by rw [u.len] at n0; omega
      rw [n0] at e1'
      rw [n1] at e2
      cases e1'
      cases e2
      exact ⟨xs, hp, r.later later_own⟩
  · have ha' : a ∈ (M.m ++ [p]).take M.h := ha
    rw [List.take_append_of_le_length (by rw [u.len]; omega)] at ha'
    exact u.hid a ha'
end
structure DIt where
  items : List D
  src : Option (Nat × List D)
def okI (I : DIt) (st : DSt) (P : Prop) : Prop := match I.src with | none => P | some (n, xs) => st[n]? = some (.lst xs) ∧ P
def okS (I : DIt) (st : DSt) : Prop := I.src = none ∨ ∃ n xs, I.src = some (n, xs) ∧ st[n]? = some (.lst xs)
theorem okI.of {I : DIt} {st : DSt} {P : Prop} (h : okI I st P) : okS I st ∧ P := by
  unfold okI at h
  cases q : I.src with
  | none => rw [q] at h; exact ⟨.inl q, h⟩
  | some n => rw [q] at h; exact ⟨.inr ⟨n.1, n.2, q, h.1⟩, h.2⟩
structure ItOk (T : List (Addr × Str)) (K : Frag) (M : Pl) (H : Hp) (J : It) (I : DIt) : Prop where
  go : ∀ M' H' st', Later M H M' H' → RS T K M' st' H' → okS I st' → ∀ (i : Nat) (d : D), I.items[i]? = some d → J.go i H' ∧ ∀ x H'', J.yld i H' x H'' → Grow M' H' M' H'' ∧ RS T K M' st' H'' ∧ RV K M' H'' d x
  stop : ∀ M' H' st', Later M H M' H' → RS T K M' st' H' → okS I st' → J.stop I.items.length H'
abbrev DTI := DEnv → DSt → (DIt → DSt → Prop) → Prop
def liftI (T : List (Addr × Str)) (K : Frag) (f : DTI) : TI := fun σ H R => ∃ M r st R', RS T K M st H ∧ RE K M H r σ ∧ f r st R' ∧ ∀ M' H' st' J I, Grow M H M' H' → RS T K M' st' H' → R' I st' → ItOk T K M' H' J I → R J H'
theorem PI.imp {X : Cx} {tg e : Expr} {t t' : TI} (h : PI X tg e t) (i : ∀ σ H Q, t' σ H Q → t σ H Q) : PI X tg e t' := ⟨fun pins s σ H Q I z => h.run pins s σ H Q I (i σ H Q z)⟩
abbrev DI (T : List (Addr × Str)) (X : Cx) (tg e : Expr) (f : DTI) : Prop := PI X tg e (liftI T X.K f)
def iSeq (K : Frag) (tl : TE) : TI := fun σ H R => tl σ H fun x H1 => ∃ a, x = .ref a ∧ (((∃ xs, SqL K H1 a xs) ∧ R (Itl K a) H1) ∨ ((∃ xs, SqT K H1 a xs) ∧ R (Itt K a) H1))
section
variable {T : List (Addr × Str)} {X : Cx} {tg : Expr}
theorem pi_seq {l : Expr} {tl : TE} (hl : PE X l tl) : PI X tg l (iSeq X.K tl) := by
  refine ⟨fun pins s σ H R I h => ?_⟩
  refine thn (hl.run pins s σ H _ I h) fun v s1 ⟨x, H1, I1, r1, q1⟩ => ?_
  obtain ⟨a, e, q1⟩ := q1
  subst e
  cases r1
  rcases q1 with ⟨⟨xs, hq⟩, q⟩ | ⟨⟨xs, hq⟩, q⟩
  · obtain ⟨its, rv, p, hz⟩ := I1.list hq
    refine wpAny_pyIter_list p.isList ?_
    refine ⟨s1.heap.objs.size, [s1.heap.objs.size], _, _, H1, rfl, I1.kept (t' := s1.toks) fun b o e => Heap.get?_push_of_some _ e, turn_list a _, ⟨_, Heap.get?_push_size _ rfl, rfl, rfl⟩, fun b hb => ?_, q⟩
    have e : b = s1.heap.objs.size := by simpa using hb
    subst e
    exact I1.fpOk (Nat.le_refl _) (I1.hok.fresh (Nat.le_refl _))
  · obtain ⟨its, rv, p, hz⟩ := I1.tuple hq
    refine wpAny_pyIter_tuple (show s1.heap.IsTuple a its.toArray from p) ?_
    refine ⟨s1.heap.objs.size, [s1.heap.objs.size], _, _, H1, rfl, I1.kept (t' := s1.toks) fun b o e => Heap.get?_push_of_some _ e, turn_tuple a _, ⟨_, Heap.get?_push_size _ rfl, rfl, rfl⟩, fun b hb => ?_, q⟩
    have e : b = s1.heap.objs.size := by simpa using hb
    subst e
    exact I1.fpOk (Nat.le_refl _) (I1.hok.fresh (Nat.le_refl _))
end
def itOf (st : DSt) : D → Option DIt
  | .tup ds => some ⟨ds, none⟩
  | .tuk ds => some ⟨ds, none⟩
  | .lst ds => some ⟨ds, none⟩
  | .scr ds => some ⟨ds, none⟩
  | .ref n => match st[n]? with | some (.lst ds) => some ⟨ds, some (n, ds)⟩ | _ => none
  | _ => none
def wSeq (f : DTE) : DTI := fun r st R => f r st fun d st1 => onO (itOf st1 d) fun I => R I st1
inductive SrcAt (K : Frag) (M : Pl) (H : Hp) (I : DIt) (a : Addr) : Prop
  | lst {xs : List V} : (∀ M' H', Later M H M' H' → SqL K H' a xs) → RVs K M H I.items xs → I.src = none → SrcAt K M H I a
  | tup {xs : List V} : (∀ M' H', Later M H M' H' → SqT K H' a xs) → RVs K M H I.items xs → I.src = none → SrcAt K M H I a
  | ref {n : Nat} : M.at_ n = some a → I.src = some (n, I.items) → SrcAt K M H I a
section
variable {T : List (Addr × Str)} {K : Frag} {M : Pl} {H : Hp} {st : DSt}
theorem itOf.src {d : D} {v : V} {I : DIt} (s : RS T K M st H) (r : RV K M H d v) (e : itOf st d = some I) : ∃ a, v = .ref a ∧ SrcAt K M H I a ∧ okS I st := by
  cases r with
  | tup n h q rs => cases e; exact ⟨_, rfl, .tup (fun M' H' l => .inl (.inr ⟨_, l.keep _ _ n h (fun ps z => by cases z)⟩)) rs rfl, .inl rfl⟩
  | tuk n h rs => cases e; exact ⟨_, rfl, .tup (fun M' H' l => .inl (.inl (l.keep _ _ n h (fun ps z => by cases z)))) rs rfl, .inl rfl⟩
  | lst n h rs => cases e; exact ⟨_, rfl, .lst (fun M' H' l => .inl (Rd.later l n (.inl h))) rs rfl, .inl rfl⟩
  | scr n h rs => cases e; exact ⟨_, rfl, .lst (fun M' H' l => .inl (Rd.later l n h)) rs rfl, .inl rfl⟩
  | lsk h rs => cases e; exact ⟨_, rfl, .lst (fun M' H' l => h H') rs rfl, .inl rfl⟩
  | ref h =>
    obtain ⟨o, e1, ro⟩ := s.atM h
    unfold itOf at e
    simp only [e1] at e
    cases o with
    | lst xs => cases e; exact ⟨_, rfl, .ref h rfl, .inr ⟨_, _, rfl, e1⟩⟩
    | dK _ => cases e
    | dT _ => cases e
  | _ => cases e
theorem SrcAt.rd {I : DIt} {a : Addr} (h : SrcAt K M H I a) {M' : Pl} {H' : Hp} {st' : DSt} (l : Later M H M' H') (s : RS T K M' st' H') (ok : okS I st') :
    ∃ xs, RVs K M' H' I.items xs ∧ (SqL K H' a xs ∨ SqT K H' a xs) := by
  cases h with
  | lst h r e => exact ⟨_, r.later l, .inl (h M' H' l)⟩
  | tup h r e => exact ⟨_, r.later l, .inr (h M' H' l)⟩
  | ref h e =>
    rcases ok with z | ⟨n', ys, z, q⟩
    · rw [e] at z; cases z
    · rw [e] at z
      cases z
      obtain ⟨xs, e1, e2⟩ := s.obj _ a _ (l.get _ _ h) q
      exact ⟨xs, e2, .inl (.inl (.inl e1))⟩
end
end DL
namespace DL
open PySem PySem.Spec PyProof.Rows L2 LamX PySem.W SL
section
variable {T : List (Addr × Str)} {K : Frag} {M : Pl} {H : Hp} {st : DSt} {I : DIt} {a : Addr}
def IsL (T : List (Addr × Str)) (K : Frag) (M : Pl) (H : Hp) (I : DIt) (a : Addr) : Prop := ∀ M' H' st', Later M H M' H' → RS T K M' st' H' → okS I st' → ∃ xs, RVs K M' H' I.items xs ∧ SqL K H' a xs
def IsT (T : List (Addr × Str)) (K : Frag) (M : Pl) (H : Hp) (I : DIt) (a : Addr) : Prop := ∀ M' H' st', Later M H M' H' → RS T K M' st' H' → okS I st' → ∃ xs, RVs K M' H' I.items xs ∧ SqT K H' a xs
theorem SrcAt.lt (h : SrcAt K M H I a) : IsL T K M H I a ∨ IsT T K M H I a := by
  cases h with
  | lst h r e => exact .inl fun M' H' st' l s ok => ⟨_, r.later l, h M' H' l⟩
  | tup h r e => exact .inr fun M' H' st' l s ok => ⟨_, r.later l, h M' H' l⟩
  | ref h e =>
    refine .inl fun M' H' st' l s ok => ?_
    rcases ok with z | ⟨n', ys, z, q⟩
    · rw [e] at z; cases z
    · rw [e] at z
      cases z
      obtain ⟨xs, e1, e2⟩ := s.obj _ a _ (l.get _ _ h) q
      exact ⟨xs, e2, .inl (.inl e1)⟩
theorem IsL.it (h : IsL T K M H I a) : ItOk T K M H (Itl K a) I := by
  refine ⟨fun M' H' st' l s ok i d e => ?_, fun M' H' st' l s ok => ?_⟩
  · obtain ⟨xs, r, q⟩ := h M' H' st' l s ok
    obtain ⟨v, e1, rv⟩ := r.get e
    refine ⟨⟨xs, v, q, e1⟩, fun x H'' y => ?_⟩
    obtain ⟨rfl, y⟩ := y
    have z := y xs q
    rw [e1] at z
    cases z
    exact ⟨Grow.refl _ _, s, rv⟩
  · obtain ⟨xs, r, q⟩ := h M' H' st' l s ok
    exact ⟨xs, q, by rw [r.length]; exact Nat.le_refl _⟩
theorem IsT.it (h : IsT T K M H I a) : ItOk T K M H (Itt K a) I := by
  refine ⟨fun M' H' st' l s ok i d e => ?_, fun M' H' st' l s ok => ?_⟩
  · obtain ⟨xs, r, q⟩ := h M' H' st' l s ok
    obtain ⟨v, e1, rv⟩ := r.get e
    refine ⟨⟨xs, v, q, e1⟩, fun x H'' y => ?_⟩
    obtain ⟨rfl, y⟩ := y
    have z := y xs q
    rw [e1] at z
    cases z
    exact ⟨Grow.refl _ _, s, rv⟩
  · obtain ⟨xs, r, q⟩ := h M' H' st' l s ok
    exact ⟨xs, q, by rw [r.length]; exact Nat.le_refl _⟩
end
theorem Later.refl (M : Pl) (H : Hp) : Later M H M H := (Grow.refl M H).later
section
variable {T : List (Addr × Str)} {X : Cx} {tg e : Expr} {f fa fb : DTE} {pos p : Pos}
theorem di_seq (he : DE T X e f) : DI T X tg e (wSeq f) := PI.imp (pi_seq he) fun σ H R ⟨M, r, st, R', s, re, h, k⟩ => ⟨M, r, st, _, s, re, h, fun M1 H1 st1 d v g1 s1 r1 q => by
  obtain ⟨I, e, q⟩ := onO.of q
  obtain ⟨a, rfl, src, ok⟩ := itOf.src s1 r1 e
  rcases src.lt (T := T) with l | l
  · obtain ⟨xs, _, sq⟩ := l M1 H1 st1 (Later.refl _ _) s1 ok
    exact ⟨a, rfl, .inl ⟨⟨xs, sq⟩, k M1 H1 st1 _ I g1 s1 q l.it⟩⟩
  · obtain ⟨xs, _, sq⟩ := l M1 H1 st1 (Later.refl _ _) s1 ok
    exact ⟨a, rfl, .inr ⟨⟨xs, sq⟩, k M1 H1 st1 _ I g1 s1 q l.it⟩⟩⟩
def rgD (lo : Int) (n : Nat) : List D := (List.range n).map fun i => D.int (lo + (i : Nat))
theorem rgD_get {lo : Int} {n i : Nat} {d : D} (h : (rgD lo n)[i]? = some d) : i < n ∧ d = .int (lo + (i : Nat)) := by
  unfold rgD at h
  rw [List.getElem?_map] at h
  cases q : (List.range n)[i]? with
  | none => rw [q] at h; cases h
  | some j =>
    rw [q] at h
    obtain ⟨l, e⟩ := List.getElem?_eq_some_iff.mp q
    rw [List.getElem_range] at e
    rw [List.length_range] at l
    subst e
    cases h
    exact ⟨l, rfl⟩
theorem rgD_length (lo : Int) (n : Nat) : (rgD lo n).length = n := by unfold rgD; rw [List.length_map, List.length_range]
theorem itok_range {K : Frag} {M : Pl} {H : Hp} {lo : Int} {n : Nat} : ItOk T K M H (Itr lo n) ⟨rgD lo n, none⟩ := by
  refine ⟨fun M' H' st' l s ok i d e => ?_, fun M' H' st' l s ok => ?_⟩
  · obtain ⟨lt, rfl⟩ := rgD_get e
    refine ⟨lt, fun x H'' y => ?_⟩
    obtain ⟨rfl, rfl⟩ := y
    exact ⟨Grow.refl _ _, s, .int _⟩
  · show n ≤ (rgD lo n).length
    rw [rgD_length]
    exact Nat.le_refl _
def wRng1 (fs : DTA) : DTI := fun r st R => fs r st fun ds st1 => on1 ds fun x => onI x fun j => (-(2 ^ 62) ≤ j ∧ j < 2 ^ 62) ∧ R ⟨rgD 0 j.toNat, none⟩ st1
def wRng2 (fs : DTA) : DTI := fun r st R => fs r st fun ds st1 => on2 ds fun x y => onI x fun i => onI y fun j => (-(2 ^ 62) ≤ i ∧ i < 2 ^ 62 ∧ -(2 ^ 62) ≤ j ∧ j < 2 ^ 62) ∧ R ⟨rgD i (j - i).toNat, none⟩ st1
theorem di_range1 {a : Expr} {fs : DTA} (hg : Gl X "range") (hm : X.mg "range" = none) (ha : DA T X [a] fs) (hs : starEach [a] X.env = [(false, eval a X.env)] := by rfl) : DI T X tg (.Call (.Name "range" p) [a] [] pos) (wRng1 fs) :=
  PI.imp (pi_range1 hg hm ha hs) fun σ H R ⟨M, r, st, R', s, re, h, k⟩ => ⟨M, r, st, _, s, re, h, fun M1 H1 st1 ds vs g1 s1 r1 q => by
    obtain ⟨x, rfl, q⟩ := on1.of q
    obtain ⟨j, rfl, b, q⟩ := onI.of q
    obtain ⟨v, rfl, rv⟩ := r1.one
    cases rv
    exact ⟨j, rfl, b.1, b.2, k M1 H1 st1 _ _ g1 s1 q itok_range⟩⟩
end
mutual
def clo (n : Nat) : D → Bool
  | .tup ds => clos n ds
  | .tuk ds => clos n ds
  | .lst ds => clos n ds
  | .scr ds => clos n ds
  | .ref k => decide (k < n)
  | _ => true
def clos (n : Nat) : List D → Bool
  | [] => true
  | d :: ds => clo n d && clos n ds
end
def cloO (n : Nat) : O → Bool
  | .lst ds => clos n ds
  | .dK kvs => clos n (kvs.map (·.2))
  | .dT kvs => clos n (kvs.map (·.2))
def cloR (n : Nat) (r : DEnv) : Prop := ∀ (i : Nat) (d : D), r[i]? = some (some d) → clo n d = true
def cloS (st0 : DSt) (n : Nat) (st : DSt) : Prop := ∀ (i : Nat) (o : O), i < n → st[i]? = some o → st0[i]? = some o ∨ cloO n o = true
def Less (r r' : DEnv) : Prop := r.length = r'.length ∧ ∀ (i : Nat) (d : D), r[i]? = some (some d) → r'[i]? = some (some d)
theorem Less.refl (r : DEnv) : Less r r := ⟨rfl, fun _ _ h => h⟩
def Pl.cut (M : Pl) (n : Nat) : Pl := ⟨M.h, M.m.take (M.h + n)⟩
section
variable {T : List (Addr × Str)} {K : Frag} {M : Pl} {H : Hp} {st : DSt}
theorem cut_at {n k : Nat} {a : Addr} (h : M.at_ k = some a) (lt : k < n) : (M.cut n).at_ k = some a := by
  unfold Pl.at_ Pl.cut
  show (M.m.take (M.h + n))[M.h + k]? = some a
  rw [List.getElem?_take, if_pos (by omega)]
  exact h
theorem cut_notin {n : Nat} {a : Addr} (h : a ∉ M.m) : a ∉ (M.cut n).m := fun z => h (List.mem_of_mem_take z)
mutual
theorem RV.cut {n : Nat} : ∀ {d : D} {v : V}, RV K M H d v → clo n d = true → RV K (M.cut n) H d v
  | _, _, .non, _ => .non
  | _, _, .bl b, _ => .bl b
  | _, _, .int i, _ => .int i
  | _, _, .str x, _ => .str x
  | _, _, .tup nn h e r, c => .tup (cut_notin nn) h e (r.cut (by simpa [clo] using c))
  | _, _, .tuk nn h r, c => .tuk (cut_notin nn) h (r.cut (by simpa [clo] using c))
  | _, _, .lst nn h r, c => .lst (cut_notin nn) h (r.cut (by simpa [clo] using c))
  | _, _, .scr nn h r, c => .scr (cut_notin nn) h (r.cut (by simpa [clo] using c))
  | _, _, .lsk h r, c => .lsk h (r.cut (by simpa [clo] using c))
  | _, _, .ref h, c => .ref (cut_at h (by simpa [clo] using c))
theorem RVs.cut {n : Nat} : ∀ {d : List D} {v : List V}, RVs K M H d v → clos n d = true → RVs K (M.cut n) H d v
  | _, _, .nil, _ => .nil
  | _, _, .cons h t, c => by
    simp only [clos, Bool.and_eq_true] at c
    exact .cons (h.cut c.1) (t.cut c.2)
end
theorem RO.cut {n : Nat} {o : O} {a : Addr} (h : RO K M H o a) (c : cloO n o = true) : RO K (M.cut n) H o a := by
  cases o with
  | lst ds => obtain ⟨xs, h1, h2⟩ := h; exact ⟨xs, h1, h2.cut c⟩
  | dK kvs => obtain ⟨ys, h1, h2, h3⟩ := h; exact ⟨ys, h1, h2, h3.cut c⟩
  | dT kvs => obtain ⟨ys, h1, h2, h3⟩ := h; exact ⟨ys, h1, h2, h3.cut c⟩
mutual
theorem clo_mono {n m : Nat} (l : n ≤ m) : ∀ {d : D}, clo n d = true → clo m d = true
  | .non, _ => by simp [clo]
  | .bl _, _ => by simp [clo]
  | .int _, _ => by simp [clo]
  | .str _, _ => by simp [clo]
  | .tup ds, h => by simp only [clo] at h ⊢; exact clos_mono l h
  | .tuk ds, h => by simp only [clo] at h ⊢; exact clos_mono l h
  | .lst ds, h => by simp only [clo] at h ⊢; exact clos_mono l h
  | .scr ds, h => by simp only [clo] at h ⊢; exact clos_mono l h
  | .ref k, h => by
    simp only [clo, decide_eq_true_eq] at h ⊢
    omega
theorem clos_mono {n m : Nat} (l : n ≤ m) : ∀ {d : List D}, clos n d = true → clos m d = true
  | [], _ => by simp [clos]
  | d :: ds, h => by
    simp only [clos, Bool.and_eq_true] at h ⊢
    exact ⟨clo_mono l h.1, clos_mono l h.2⟩
end
theorem cloO_mono {n m : Nat} (l : n ≤ m) {o : O} (h : cloO n o = true) : cloO m o = true := by
  cases o <;> exact clos_mono l h
mutual
theorem RV.clo {n : Nat} (len : M.m.length = M.h + n) : ∀ {d : D} {v : V}, RV K M H d v → DL.clo n d = true
  | _, _, .non => by simp [DL.clo]
  | _, _, .bl b => by simp [DL.clo]
  | _, _, .int i => by simp [DL.clo]
  | _, _, .str x => by simp [DL.clo]
  | _, _, .tup nn h e r => by simp only [DL.clo]; exact RVs.clo len r
  | _, _, .tuk nn h r => by simp only [DL.clo]; exact RVs.clo len r
  | _, _, .lst nn h r => by simp only [DL.clo]; exact RVs.clo len r
  | _, _, .scr nn h r => by simp only [DL.clo]; exact RVs.clo len r
  | _, _, .lsk h r => by simp only [DL.clo]; exact RVs.clo len r
  | _, _, .ref h => by
    have := (List.getElem?_eq_some_iff.mp h).1
    simp only [DL.clo, decide_eq_true_eq]
    omega
theorem RVs.clo {n : Nat} (len : M.m.length = M.h + n) : ∀ {d : List D} {v : List V}, RVs K M H d v → DL.clos n d = true
  | _, _, .nil => by simp [DL.clos]
  | _, _, .cons h t => by
    simp only [DL.clos, Bool.and_eq_true]
    exact ⟨RV.clo len h, RVs.clo len t⟩
end
theorem RS.clo (s : RS T K M st H) {i : Nat} {o : O} (e : st[i]? = some o) : cloO st.length o = true := by
  obtain ⟨a, _, ro⟩ := s.addr e
  cases o with
  | lst ds => obtain ⟨xs, h1, h2⟩ := ro; exact h2.clo s.len
  | dK kvs => obtain ⟨ys, h1, h2, h3⟩ := ro; exact h3.clo s.len
  | dT kvs => obtain ⟨ys, h1, h2, h3⟩ := ro; exact h3.clo s.len
theorem cloS.all {M0 : Pl} {H0 : Hp} {st0 : DSt} {n : Nat} (h : cloS st0 n st) (s0 : RS T K M0 st0 H0) (l : st0.length ≤ n) : ∀ (i : Nat) (o : O), i < n → st[i]? = some o → cloO n o = true := fun i o lt e => by
  rcases h i o lt e with q | q
  · exact cloO_mono l (s0.clo q)
  · exact q
theorem RS.cut {n : Nat} (s : RS T K M st H) (l : n ≤ st.length) (c : ∀ (i : Nat) (o : O), i < n → st[i]? = some o → cloO n o = true) : RS T K (M.cut n) (st.take n) H := by
  refine ⟨?_, List.Nodup.sublist (List.take_sublist _ _) s.nd, fun k a o e1 e2 => ?_, s.tabs, fun a ha => s.hid a ?_⟩
  · show (M.m.take (M.h + n)).length = M.h + (st.take n).length
    rw [List.length_take, List.length_take, s.len]
    omega
  · have lt : k < n := by
      have := (List.getElem?_eq_some_iff.mp e2).1
      rw [List.length_take] at this
      omega
    rw [List.getElem?_take, if_pos lt] at e2
    have e1' : (M.m.take (M.h + n))[M.h + k]? = some a := e1
    rw [List.getElem?_take, if_pos (by omega)] at e1'
    exact (s.obj k a o e1' e2).cut (c k o lt e2)
  · have ha' : a ∈ (M.m.take (M.h + n)).take M.h := ha
    rw [List.take_take, Nat.min_eq_left (by omega)] at ha'
    exact ha'
theorem RE.cut {n : Nat} {r r' : DEnv} {σ : L2.St} (re : RE K M H r σ) (l : Less r' r) (c : cloR n r') : RE K (M.cut n) H r' σ :=
  ⟨l.1.trans re.len, fun i d e => by
    obtain ⟨v, e1, e2⟩ := re.at_ i d (l.2 i d e)
    exact ⟨v, e1, e2.cut (c i d e)⟩⟩
theorem Grow.cut {M0 : Pl} {H0 : Hp} {st0 : DSt} {n : Nat} (g : Grow M0 H0 M H) (s0 : RS T K M0 st0 H0) (l : st0.length ≤ n) : Grow M0 H0 (M.cut n) H := by
  refine ⟨?_, g.keep, g.there, g.hid⟩
  obtain ⟨m, rfl, f⟩ := g.more
  refine ⟨m.take (n - st0.length), ?_, fun a ha => f a (List.mem_of_mem_take ha)⟩
  unfold Pl.cut Pl.app
  show Pl.mk M0.h ((M0.m ++ m).take (M0.h + n)) = _
  rw [List.take_append, List.take_of_length_le (by rw [s0.len]; omega), s0.len, show M0.h + n - (M0.h + st0.length) = n - st0.length by omega]
end
def Wk (b : DSt) (P : DEnv → DSt → Prop) : DEnv → DSt → Prop := fun r st => P r st ∨ ∃ r' n, b.length ≤ n ∧ n ≤ st.length ∧ Less r' r ∧ cloR n r' ∧ cloS b n st ∧ P r' (st.take n)
theorem Wk.sound {T : List (Addr × Str)} {K : Frag} {M M0 : Pl} {H H0 : Hp} {st st0 : DSt} {r : DEnv} {σ : L2.St} {P : DEnv → DSt → Prop} (h : Wk st0 P r st) (s0 : RS T K M0 st0 H0) (g : Grow M0 H0 M H) (s : RS T K M st H) (re : RE K M H r σ) :
    ∃ M' r' st', Grow M0 H0 M' H ∧ RS T K M' st' H ∧ RE K M' H r' σ ∧ P r' st' := by
  rcases h with h | ⟨r', n, h1, h2, h3, h4, h5, h6⟩
  · exact ⟨M, r, st, g, s, re, h⟩
  · exact ⟨M.cut n, r', st.take n, g.cut s0 h1, s.cut h2 (h5.all s0 h1), re.cut h3 h4, h6⟩
def forL (I : DIt) (g : DTG) (F : DTS) (E : DEnds) (b : DSt) : List D → DEnv → DSt → Prop
  | [], r, st => okI I st (E.nx r st)
  | d :: ds, r, st => okI I st (g d r st fun r1 st1 => F { nx := Wk b (forL I g F E b ds), rt := E.rt, bk := E.nx, ct := Wk b (forL I g F E b ds) } r1 st1)
def sFor (f : DTI) (g : DTG) (F : DTS) : DTS := fun E r st => f r st fun I st1 => forL I g F E st1 I.items r st1
section
variable {T : List (Addr × Str)} {X : Cx} {tg iter : Expr} {f : DTI} {g : DTG} {F : DTS} {pos : Pos} {vs : List Nat}
theorem ds_for {body : List Stmt} (hp : PassesOwn (model X.prog X.w) X.A X.env X.xe) (hc : X.calm = true) (hi : DI T X tg iter f) (hg : DG T X vs tg g) (hb : DSs T X body F) (hs : ∀ x, foldedSetIterable iter X.env x = pure x := by intro _; rfl) :
    DSt1 T X (.For tg iter body [] pos) (sFor f g F) :=
  PS.imp (ps_for hp hc hi hg hb hs) fun E σ H ⟨M, r, st, E', s, re, h, k⟩ => ⟨M, r, st, _, s, re, h, fun M1 H1 st1 J I g1 s1 q it => by
    refine ⟨fun i m σ' H' => ∃ M' r' st', Grow M1 H1 M' H' ∧ RS T X.K M' st' H' ∧ RE X.K M' H' r' σ' ∧ i ≤ I.items.length ∧ m = I.items.length - i ∧ forL I g F E' st1 (I.items.drop i) r' st', ⟨I.items.length, M1, r, st1, Grow.refl _ _, s1, re.grow g1, Nat.zero_le _, rfl, q⟩, fun i m σ' H' w => ?_⟩
    obtain ⟨M', r', st', gr, s', re', le, rfl, fl⟩ := w
    cases e : I.items.drop i with
    | nil =>
      rw [e] at fl
      obtain ⟨ok, q⟩ := okI.of fl
      have ei : i = I.items.length := by
        have := List.drop_eq_nil_iff.mp e
        omega
      refine .inl ⟨?_, k.nx M' H' σ' r' st' (g1.trans gr) s' re' q⟩
      rw [ei]
      exact it.stop M' H' st' gr.later s' ok
    | cons d ds =>
      rw [e] at fl
      obtain ⟨ok, q⟩ := okI.of fl
      have at_ : I.items[i]? = some d := by
        have z : (I.items.drop i)[0]? = some d := by rw [e]; rfl
        rw [List.getElem?_drop, Nat.add_zero] at z
        exact z
      have lt : i < I.items.length := (List.getElem?_eq_some_iff.mp at_).1
      have ds_ : I.items.drop (i + 1) = ds := by
        have z : (I.items.drop i).drop 1 = ds := by rw [e]; rfl
        rw [List.drop_drop] at z
        exact z
      obtain ⟨go, yl⟩ := it.go M' H' st' gr.later s' ok i d at_
      refine .inr ⟨go, fun σ2 H2 => ∃ M2 r2 st2, Grow M1 H1 M2 H2 ∧ RS T X.K M2 st2 H2 ∧ RE X.K M2 H2 r2 σ2 ∧ forL I g F E' st1 ds r2 st2, fun σ2 H2 ⟨M2, r2, st2, g2, s2, re2, q2⟩ => ⟨I.items.length - (i + 1), by omega, M2, r2, st2, g2, s2, re2, lt, rfl, by rw [ds_]; exact q2⟩, fun x H2 y => ?_⟩
      obtain ⟨g2, s2, r2⟩ := yl x H2 y
      refine ⟨M', r', st', d, _, s2, re'.grow g2, r2, q, fun M3 H3 σ3 r3 st3 g3 s3 re3 _ q3 => ?_⟩
      refine ⟨M3, r3, st3, _, s3, re3, q3, ?_⟩
      have g13 : Grow M1 H1 M3 H3 := (gr.trans g2).trans g3
      refine ⟨fun M4 H4 σ4 r4 st4 g4 s4 re4 q4 => ?_, (k.rt.grow g1).grow g13, (k.nx.grow g1).grow g13, fun M4 H4 σ4 r4 st4 g4 s4 re4 q4 => ?_⟩
      · exact (Wk.sound q4 s1 (g13.trans g4) s4 re4)
      · exact (Wk.sound q4 s1 (g13.trans g4) s4 re4)⟩
def whileL (t : DTT) (F : DTS) (E : DEnds) (b : DSt) : Nat → DEnv → DSt → Prop
  | 0, _, _ => False
  | n + 1, r, st => t r st fun c st1 => if c = true then F { nx := Wk b (whileL t F E b n), rt := E.rt, bk := E.nx, ct := Wk b (whileL t F E b n) } r st1 else E.nx r st1
def sWhile (t : DTT) (F : DTS) : DTS := fun E r st => ∃ n, whileL t F E st n r st
theorem ds_while {c : Expr} {body : List Stmt} {t : DTT} (hp : PassesOwn (model X.prog X.w) X.A X.env X.xe) (hc : DT T X c t) (hb : DSs T X body F) : DSt1 T X (.While c body [] pos) (sWhile t F) :=
  PS.imp (ps_while hp hc hb) fun E σ H ⟨M1, r, st1, E', s1, re, ⟨n, h⟩, k⟩ => by
    refine ⟨fun m σ' H' => ∃ M' r' st', Grow M1 H M' H' ∧ RS T X.K M' st' H' ∧ RE X.K M' H' r' σ' ∧ whileL t F E' st1 m r' st', ⟨n, M1, r, st1, Grow.refl _ _, s1, re, h⟩, fun m σ' H' w => ?_⟩
    obtain ⟨M', r', st', gr, s', re', wl⟩ := w
    cases m with
    | zero => exact wl.elim
    | succ m =>
      refine ⟨M', r', st', _, s', re', wl, fun M2 H2 st2 c g2 s2 q => ?_⟩
      cases c with
      | true =>
        rw [if_pos rfl] at q ⊢
        refine ⟨fun σ3 H3 => ∃ M3 r3 st3, Grow M1 H M3 H3 ∧ RS T X.K M3 st3 H3 ∧ RE X.K M3 H3 r3 σ3 ∧ whileL t F E' st1 m r3 st3, fun σ3 H3 z => ⟨m, Nat.lt_succ_self m, z⟩, M2, r', st2, _, s2, re'.grow g2, q, ?_⟩
        have g12 := gr.trans g2
        exact ⟨fun M4 H4 σ4 r4 st4 g4 s4 re4 q4 => Wk.sound q4 s1 (g12.trans g4) s4 re4, k.rt.grow g12, k.nx.grow g12, fun M4 H4 σ4 r4 st4 g4 s4 re4 q4 => Wk.sound q4 s1 (g12.trans g4) s4 re4⟩
      | false =>
        rw [if_neg (by decide)] at q ⊢
        exact k.nx M2 H2 σ' r' st2 (gr.trans g2) s2 (re'.grow g2) q
end
end DL
namespace DL
open PySem PySem.Spec PyProof.Rows L2 LamX PySem.W SL
def wipeD (r : DEnv) : List Nat → DEnv
  | [] => r
  | v :: vs => (wipeD r vs).set v none
theorem RE.forget {K : Frag} {M : Pl} {H : Hp} {r : DEnv} {σ : L2.St} (h : RE K M H r σ) (i : Nat) (x : Option V) : RE K M H (r.set i none) (σ.set i x) := by
  refine ⟨by rw [List.length_set, List.length_set]; exact h.len, fun j c e => ?_⟩
  by_cases q : j = i
  · subst q
    have lt : j < r.length := by
      have := (List.getElem?_eq_some_iff.mp e).1
      rw [List.length_set] at this
      exact this
    rw [List.getElem?_set_self lt] at e
    cases e
  · rw [List.getElem?_set_ne (fun z => q z.symm)] at e ⊢
    exact h.at_ j c e
theorem RE.wipe {K : Frag} {M : Pl} {H : Hp} {r : DEnv} {σ : L2.St} (h : RE K M H r σ) : ∀ vs : List Nat, RE K M H (wipeD r vs) (L2.wipe σ vs)
  | [] => h
  | v :: vs => (RE.wipe h vs).forget v none
theorem RE.later {K : Frag} {M M' : Pl} {H H' : Hp} {r : DEnv} {σ : L2.St} (h : RE K M H r σ) (g : Later M H M' H') : RE K M' H' r σ :=
  ⟨h.len, fun i d e => by obtain ⟨v, e1, e2⟩ := h.at_ i d e; exact ⟨v, e1, e2.later g⟩⟩
def dtYes : DTT := fun _ st Q => Q true st
def compL (I : DIt) (g : DTG) (tt : DTT) (te : DTE) (r : DEnv) (Q : List D → DSt → Prop) : List D → List D → DSt → Prop
  | [], acc, st => okI I st (Q acc st)
  | d :: ds, acc, st => okI I st (g d r st fun r2 st2 => tt r2 st2 fun b st3 => if b = true then te r2 st3 fun y st4 => compL I g tt te r Q ds (acc ++ [y]) st4 else compL I g tt te r Q ds acc st3)
def dLcG (f : DTI) (g : DTG) (tt : DTT) (te : DTE) (vs : List Nat) (fin : (D → DSt → Prop) → List D → DSt → Prop) : DTE := fun r st Q => f r st fun I st1 => I.items.length ≤ sizeLine ∧ compL I g tt te (wipeD r vs) (fin Q) I.items [] st1
def finT (Q : D → DSt → Prop) (acc : List D) (st : DSt) : Prop := Q (.lst acc) st
def finN (Q : D → DSt → Prop) (acc : List D) (st : DSt) : Prop := Q (.ref st.length) (st ++ [.lst acc])
def FinOk (T : List (Addr × Str)) (K : Frag) (fin : (D → DSt → Prop) → List D → DSt → Prop) : Prop := ∀ (M M' : Pl) (H H' : Hp) (st' : DSt) (p : Addr) (acc : List D) (xs : List V) (Q' : DK) (Q : VK), H p = none → Grow M H M' H' → RS T K (M'.hide p) st' H' →
  H' p = some (.lst xs) → RVs K (M'.hide p) H' acc xs → Kn T K M H Q' Q → fin Q' acc st' → Q (.ref p) H'
theorem finT_ok {T : List (Addr × Str)} {K : Frag} : FinOk T K finT := by
  intro M M' H H' st' p acc xs Q' Q np g s' hp r k q
  exact k M' H' st' (.lst acc) (.ref p) g s'.unhide (.lst (List.nodup_cons.mp s'.nd).1 hp (r.later later_unhide)) q
theorem Grow.andOwn {M M' : Pl} {H H' : Hp} {p : Addr} (g : Grow M H M' H') (np : H p = none) : Grow M H (M'.app [p]) H' := by
  refine ⟨?_, g.keep, g.there, g.hid⟩
  obtain ⟨m, rfl, f⟩ := g.more
  refine ⟨m ++ [p], by unfold Pl.app; simp, fun a ha => ?_⟩
  rcases List.mem_append.mp ha with z | z
  · exact f a z
  · rw [List.mem_singleton.mp z]; exact NT.no np
theorem finN_ok {T : List (Addr × Str)} {K : Frag} : FinOk T K finN := by
  intro M M' H H' st' p acc xs Q' Q np g s' hp r k q
  refine k (M'.app [p]) H' _ _ (.ref p) (g.andOwn np) (s'.own hp r) (.ref ?_) q
  unfold Pl.at_
  show (M'.m ++ [p])[M'.h + st'.length]? = some p
  rw [← s'.unhide.len]
  simp
theorem Grow.step {T : List (Addr × Str)} {K : Frag} {M M1 M2 : Pl} {H H1 H2 : Hp} {st : DSt} {p : Addr} {o : HO} (g : Grow M H M1 H1) (s : RS T K M st H) (np : H p = none) (g2 : Grow (M1.hide p) H1 (M2.hide p) H2) : Grow M H M2 (upd H2 p o) := by
  refine ⟨?_, fun a u n e t => ?_, fun a t => ?_, fun a ha => ?_⟩
  · obtain ⟨m1, rfl, f1⟩ := g.more
    obtain ⟨m2, e, f2⟩ := g2.more
    rw [Pl.hide_app] at e
    have e := Pl.hide_inj e
    subst e
    refine ⟨m1 ++ m2, by unfold Pl.app; simp, fun a ha => ?_⟩
    rcases List.mem_append.mp ha with z | z
    · exact f1 a z
    · exact fun q => f2 a z (g.there a q)
  · have ne : a ≠ p := ne_of_none e np
    rw [upd_ne ne]
    refine g2.keep a u (fun z => ?_) (g.keep a u n e t) t
    rcases List.mem_cons.mp z with z | z
    · exact ne z
    · exact g.notin n ⟨u, e, t⟩ z
  · exact (g2.there a (g.there a t)).upd (t.ne np)
  · obtain ⟨xs, e⟩ := s.hid a ha
    have ne : a ≠ p := ne_of_none e np
    rw [upd_ne ne]
    refine (g2.hid a ?_).trans (g.hid a ha)
    show a ∈ (p :: M1.m).take (M1.h + 1)
    rw [List.take_succ_cons]
    obtain ⟨m1, rfl, f1⟩ := g.more
    exact List.mem_cons_of_mem _ (take_app ha)
theorem upd_self {H : Hp} {p : Addr} {o : HO} (h : H p = some o) : upd H p o = H := by
  funext a
  by_cases z : a = p
  · rw [z, upd_same, h]
  · rw [upd_ne z]
theorem Grow.lateHide {M M' : Pl} {H H' : Hp} {p : Addr} (g : Grow M H M' H') (np : H p = none) : Later M H (M'.hide p) H' := by
  refine ⟨g.keep, fun n a h => by rw [Pl.hide_at]; exact g.get h, fun a n t z => ?_⟩
  rcases List.mem_cons.mp z with z | z
  · exact t.ne np z
  · exact g.notin n t z
theorem hidden_at {M : Pl} {p : Addr} : p ∈ (M.hide p).m.take (M.hide p).h := by
  show p ∈ (p :: M.m).take (M.h + 1)
  rw [List.take_succ_cons]
  exact List.mem_cons_self
theorem grow_hide {M M2 : Pl} {H H2 : Hp} {p : Addr} (g : Grow (M.hide p) H M2 H2) : ∃ N : Pl, M2 = N.hide p := by
  obtain ⟨m, rfl, _⟩ := g.more
  exact ⟨M.app m, Pl.hide_app M p m⟩
theorem RS.push {T : List (Addr × Str)} {K : Frag} {M : Pl} {H : Hp} {st : DSt} {p : Addr} {xs ys : List V} (s : RS T K (M.hide p) st H) (hp : H p = some (.lst xs)) : RS T K (M.hide p) st (upd H p (.lst ys)) ∧ Later (M.hide p) H (M.hide p) (upd H p (.lst ys)) := by
  have l : Later (M.hide p) H (M.hide p) (upd H p (.lst ys)) := ⟨fun a o n e _ => by
    rw [upd_ne fun z => n (by rw [z]; exact List.mem_cons_self)]
    exact e, fun _ _ h => h, fun _ h _ => h⟩
  refine ⟨⟨s.len, s.nd, fun n a o e1 e2 => ?_, tabs_upd s.tabs fun b u hb z => ?_, fun a ha => ?_⟩, l⟩
  · refine (s.obj n a o e1 e2).later l (upd_ne fun z => ?_)
    rw [Pl.hide_at] at e1
    exact (List.nodup_cons.mp s.nd).1 (by rw [← z]; exact Pl.at_mem e1)
  · exact (s.tabNe List.mem_cons_self hb z).symm
  · by_cases z : a = p
    · rw [z]; exact ⟨ys, upd_same⟩
    · rw [upd_ne z]; exact s.hid a ha
theorem wipe_wipe (σ : L2.St) (vs : List Nat) : L2.wipe (L2.wipe σ vs) vs = L2.wipe σ vs := by
  have no : ∀ (ws : List Nat) (τ : L2.St) (i : Nat), (L2.wipe τ ws).set i none = L2.wipe (τ.set i none) ws := by
    intro ws
    induction ws with
    | nil => intro τ i; rfl
    | cons w ws ih =>
      intro τ i
      show ((L2.wipe τ ws).set w none).set i none = (L2.wipe (τ.set i none) ws).set w none
      rw [← ih τ i]
      by_cases e : w = i
      · rw [e]
      · rw [List.set_comm _ _ e]
  induction vs generalizing σ with
  | nil => rfl
  | cons v vs ih =>
    show (L2.wipe ((L2.wipe σ vs).set v none) vs).set v none = (L2.wipe σ vs).set v none
    rw [← no vs (L2.wipe σ vs) v, ih, List.set_set]
theorem lift_lc {T : List (Addr × Str)} {K : Frag} {f : DTI} {g : DTG} {tt : DTT} {te : DTE} {vs : List Nat} {fin : (D → DSt → Prop) → List D → DSt → Prop} (fo : FinOk T K fin) {σ : L2.St} {H : Hp} {Q : VK} (h : lift T K (dLcG f g tt te vs fin) σ H Q) :
    tLc (liftI T K f) (liftG T K vs g) (liftT T K tt) (lift T K te) vs σ H Q := by
  obtain ⟨M, r, st, Q', s, re, h, k⟩ := h
  refine ⟨M, r, st, _, s, re, h, fun M1 H1 st1 J I g1 s1 q it p np => ?_⟩
  obtain ⟨few, q⟩ := q
  refine ⟨fun i m H' => ∃ (M' : Pl) (acc : List D) (xs : List V) (st' : DSt), Grow M1 H1 M' H' ∧ RS T K (M'.hide p) st' H' ∧ H' p = some (.lst xs) ∧ RVs K (M'.hide p) H' acc xs ∧ acc.length ≤ i ∧ i ≤ I.items.length ∧ m = I.items.length - i ∧
      compL I g tt te (wipeD r vs) (fin Q') (I.items.drop i) acc st', ⟨I.items.length, M1, [], [], st1, Grow.new s1.hid np, s1.hide np, upd_same, .nil, Nat.le_refl _, Nat.zero_le _, rfl, q⟩, fun i m H' w => ?_⟩
  obtain ⟨M', acc, xs, st', gr, s', hp, rs, la, le, rfl, cl⟩ := w
  have lat := gr.lateHide np
  have reN : RE K (M'.hide p) H' (wipeD r vs) (L2.wipe σ vs) := ((re.grow g1).wipe vs).later lat
  cases e : I.items.drop i with
  | nil =>
    rw [e] at cl
    obtain ⟨ok, q⟩ := okI.of cl
    have ei : i = I.items.length := by
      have := List.drop_eq_nil_iff.mp e
      omega
    exact .inl ⟨by rw [ei]; exact it.stop _ H' st' lat s' ok, fo M1 M' H1 H' st' p acc xs Q' Q np gr s' hp rs (k.grow g1) q⟩
  | cons d ds =>
    rw [e] at cl
    obtain ⟨ok, q⟩ := okI.of cl
    have at_ : I.items[i]? = some d := by
      have z : (I.items.drop i)[0]? = some d := by rw [e]; rfl
      rw [List.getElem?_drop, Nat.add_zero] at z
      exact z
    have lt : i < I.items.length := (List.getElem?_eq_some_iff.mp at_).1
    have ds_ : I.items.drop (i + 1) = ds := by
      have z : (I.items.drop i).drop 1 = ds := by rw [e]; rfl
      rw [List.drop_drop] at z
      exact z
    obtain ⟨go, yl⟩ := it.go _ H' st' lat s' ok i d at_
    refine .inr ⟨go, fun H2 => ∃ (M2 : Pl) (acc2 : List D) (xs2 : List V) (st2 : DSt), Grow M1 H1 M2 H2 ∧ RS T K (M2.hide p) st2 H2 ∧ H2 p = some (.lst xs2) ∧ RVs K (M2.hide p) H2 acc2 xs2 ∧ acc2.length ≤ i + 1 ∧ compL I g tt te (wipeD r vs) (fin Q') ds acc2 st2,
      fun H2 ⟨M2, acc2, xs2, st2, a1, a2, a3, a4, a5, a6⟩ => ⟨I.items.length - (i + 1), by omega, M2, acc2, xs2, st2, a1, a2, a3, a4, a5, lt, rfl, by rw [ds_]; exact a6⟩, fun x H2 y => ?_⟩
    obtain ⟨g2, s2, r2⟩ := yl x H2 y
    refine ⟨_, wipeD r vs, st', d, _, s2, reN.grow g2, r2, q, fun M3 H3 σ3 r3 st3 g3 s3 re3 w3 q3 => ⟨w3.trans (wipe_wipe σ vs), M3, r3, st3, _, s3, re3, q3, fun M4 H4 st4 b g4 s4 q4 => ?_⟩⟩
    have g24 := (g2.trans g3).trans g4
    cases b with
    | true =>
      rw [if_pos rfl] at q4
      refine iteT ?_
      refine ⟨M4, r3, st4, _, s4, re3.grow g4, q4, fun M5 H5 st5 z vz g5 s5 r5 q5 => ?_⟩
      have g25 := g24.trans g5
      obtain ⟨N5, rfl⟩ := grow_hide g25
      have hp5 : H5 p = some (.lst xs) := (g25.hid p hidden_at).trans hp
      obtain ⟨s6, l6⟩ := s5.push (ys := xs ++ [vz]) hp5
      refine ⟨xs, hp5, ?_, N5, acc ++ [z], xs ++ [vz], st5, gr.step s1 np g25, s6, upd_same, ?_, by rw [List.length_append]; simp; omega, q5⟩
      · rw [← rs.length]; omega
      · exact ((rs.grow g25).later l6).append (.cons (r5.later l6) .nil)
    | false =>
      rw [if_neg (by decide)] at q4
      refine iteF ?_
      obtain ⟨N4, rfl⟩ := grow_hide g24
      have hp4 : H4 p = some (.lst xs) := (g24.hid p hidden_at).trans hp
      refine ⟨N4, acc, xs, st4, ?_, s4, hp4, rs.grow g24, by omega, q4⟩
      have z := gr.step (o := .lst xs) s1 np g24
      rw [upd_self hp4] at z
      exact z
theorem PTs.imp {X : Cx} {e : List Expr} {t t' : TT} (h : PTs X e t) (i : ∀ σ H Q, t' σ H Q → t σ H Q) : PTs X e t' := ⟨fun pins s σ H Q I z => h.run pins s σ H Q I (i σ H Q z)⟩
abbrev DTs (T : List (Addr × Str)) (X : Cx) (e : List Expr) (f : DTT) : Prop := PTs X e (liftT T X.K f)
section
variable {T : List (Addr × Str)} {X : Cx}
theorem dts_nil : DTs T X [] dtYes := PTs.imp pts_nil fun σ H Q ⟨M, r, st, Q', s, re, h, k⟩ => k M H st true (Grow.refl M H) s h
theorem dts_one {c : Expr} {t : DTT} (h : DT T X c t) : DTs T X [c] t := pts_one h
variable {elt tg iter : Expr} {ifs : List Expr} {scope : Scope} {own : List (Str × Nat)} {pos : Pos} {f : DTI} {g : DTG} {tt : DTT} {te : DTE}
theorem de_lcG {fin : (D → DSt → Prop) → List D → DSt → Prop} (fo : FinOk T X.K fin) (hc : X.calm = true) (hN : X.N.Nodup) (hi : DI T X tg iter f) (ok : BlkOk X.N X.env.scope scope own)
    (hg : ∀ (s : Shared) (H : Hp) (C : Addr) (cl : List (Str × Addr)) (fp : List Addr), DG T (X.blk s H scope (compEnvC scope cl C X.env) fp) (own.map (·.2)) tg g) (ht : ∀ (s : Shared) (H : Hp) (C : Addr) (cl : List (Str × Addr)) (fp : List Addr), DTs T (X.blk s H scope (compEnvC scope cl C X.env) fp) ifs tt)
    (he : ∀ (s : Shared) (H : Hp) (C : Addr) (cl : List (Str × Addr)) (fp : List Addr), DE T (X.blk s H scope (compEnvC scope cl C X.env) fp) elt te) (hs : ∀ x, foldedSetIterable iter X.env x = pure x := by intro _; rfl) :
    DE T X (.ListComp elt [⟨tg, iter, ifs, 0⟩] scope pos) (dLcG f g tt te (own.map (·.2)) fin) :=
  PE.imp (pe_lc hc hN hi ok hg ht he hs) fun _ _ _ h => lift_lc fo h
theorem ds_setLcG {i : Nat} {y : Str} {py spos : Pos} {fin : (D → DSt → Prop) → List D → DSt → Prop} (fo : FinOk T X.K fin) (hc : X.calm = true) (hN : X.N.Nodup) (hy : X.N[i]? = some y) (hyl : X.env.scope.names.lookup y = some .local)
    (hsw : swapsWith (.ListComp elt [⟨tg, iter, ifs, 0⟩] scope pos) (some (.Name y py)) spos.line X.env = pure true) (hi : DI T X tg iter f) (ok : BlkOk X.N X.env.scope scope own)
    (hg : ∀ (s : Shared) (H : Hp) (C : Addr) (cl : List (Str × Addr)) (fp : List Addr), DG T (X.blk s H scope (compEnvC scope cl C X.env) fp) (own.map (·.2)) tg g) (ht : ∀ (s : Shared) (H : Hp) (C : Addr) (cl : List (Str × Addr)) (fp : List Addr), DTs T (X.blk s H scope (compEnvC scope cl C X.env) fp) ifs tt)
    (he : ∀ (s : Shared) (H : Hp) (C : Addr) (cl : List (Str × Addr)) (fp : List Addr), DE T (X.blk s H scope (compEnvC scope cl C X.env) fp) elt te) (hs : ∀ x, foldedSetIterable iter X.env x = pure x := by intro _; rfl) :
    DSt1 T X (.Assign [.Name y py] (.ListComp elt [⟨tg, iter, ifs, 0⟩] scope pos) spos) (sSet i (dLcG f g tt te (own.map (·.2)) fin)) :=
  PS.imp (ps_setLc hc hN hy hyl hsw hi ok hg ht he hs) fun E σ H ⟨M, r, st, E', s, re, h, k⟩ =>
    lift_lc fo ⟨M, r, st, _, s, re, h, fun M1 H1 st1 d v g1 s1 r1 q => k.nx M1 H1 _ _ st1 g1 s1 ((re.grow g1).set i r1) q⟩
end
end DL
namespace DL
open PySem PySem.Spec PyProof.Rows L2 LamX PySem.W SL
def spD (T : List (Addr × Str)) (K : Frag) (n : Nat) (g : DRs) : Sp := fun vs H Q _ => vs.length = n ∧ ∃ M st ds Q', RS T K M st H ∧ RVs K M H ds vs ∧ g ds st Q' ∧ Kn T K M H Q' Q
structure FnD (P : Program) (w : World) (K : Frag) (mg : Str → Option Value) (base : Heap) (T : List (Addr × Str)) (k : Nat) (f : Addr) (fd : FuncData) (ps : List Str) (g : DRs) : Prop where
  fn : FnG P w K mg base k f fd ps (spD T K ps.length g)
  ar : ∀ ds st Q, g ds st Q → ds.length = ps.length
mutual
/-- .. its own lists become lists that nobody writes to, at any depth -/
inductive Fz (st : DSt) (n : Nat) : D → D → Prop
  | same {d : D} : clo n d = true → Fz st n d d
  | tup {ds es : List D} : Fzs st n ds es → Fz st n (.tup ds) (.tup es)
  | tuk {ds es : List D} : Fzs st n ds es → Fz st n (.tuk ds) (.tuk es)
  | lst {ds es : List D} : Fzs st n ds es → Fz st n (.lst ds) (.lst es)
  | own {k : Nat} {ds es : List D} : n ≤ k → st[k]? = some (.lst ds) → Fzs st n ds es → Fz st n (.ref k) (.lst es)
inductive Fzs (st : DSt) (n : Nat) : List D → List D → Prop
  | nil : Fzs st n [] []
  | cons {d e : D} {ds es : List D} : Fz st n d e → Fzs st n ds es → Fzs st n (d :: ds) (e :: es)
end
theorem Fzs.same {st : DSt} {n : Nat} : ∀ {ds : List D}, clos n ds = true → Fzs st n ds ds
  | [], _ => .nil
  | d :: ds, h => by
    simp only [clos, Bool.and_eq_true] at h
    exact .cons (.same h.1) (Fzs.same h.2)
theorem notin_cut {T : List (Addr × Str)} {K : Frag} {M : Pl} {H : Hp} {st : DSt} {n m : Nat} {a : Addr} (s : RS T K M st H) (hr : M.at_ n = some a) (le : m ≤ n) : a ∉ (M.cut m).m := by
  intro z
  obtain ⟨i, hi⟩ := List.mem_iff_getElem?.mp z
  have hi' : (M.m.take (M.h + m))[i]? = _ := hi
  rw [List.getElem?_take] at hi'
  split at hi'
  · obtain ⟨l1, q1⟩ := List.getElem?_eq_some_iff.mp hi'
    obtain ⟨l2, q2⟩ := List.getElem?_eq_some_iff.mp hr
    have := (List.getElem_inj s.nd).mp (q1.trans q2.symm)
    omega
  · cases hi'
section
variable {T : List (Addr × Str)} {K : Frag} {M : Pl} {H : Hp} {st : DSt}
mutual
theorem Fz.rv (s : RS T K M st H) {n : Nat} : ∀ {d e : D} {v : V}, Fz st n d e → RV K M H d v → RV K (M.cut n) H e v
  | _, _, _, .same c, r => r.cut c
  | _, _, _, .tup f, .tup a b c r => .tup (cut_notin a) b c (f.rvs s r)
  | _, _, _, .tuk f, .tuk a b r => .tuk (cut_notin a) b (f.rvs s r)
  | _, _, _, .lst f, .lst a b r => .lst (cut_notin a) b (f.rvs s r)
  | _, _, _, .own (ds := ds) le e f, .ref hr => by
    obtain ⟨xs, e1, e2⟩ := s.obj _ _ _ hr e
    exact .lst (notin_cut s hr le) e1 (f.rvs s e2)
theorem Fzs.rvs (s : RS T K M st H) {n : Nat} : ∀ {d e : List D} {v : List V}, Fzs st n d e → RVs K M H d v → RVs K (M.cut n) H e v
  | _, _, _, .nil, .nil => .nil
  | _, _, _, .cons f fs, .cons r rs => .cons (f.rv s r) (fs.rvs s rs)
end
end
def Rt (b : DSt) (Q : DK) : DK := fun d st => Q d st ∨ (∃ n, b.length ≤ n ∧ n ≤ st.length ∧ clo n d = true ∧ cloS b n st ∧ Q d (st.take n)) ∨
  (∃ n d', b.length ≤ n ∧ n ≤ st.length ∧ Fz st n d d' ∧ cloS b n st ∧ Q d' (st.take n))
theorem Rt.sound {T : List (Addr × Str)} {K : Frag} {M M0 : Pl} {H H0 : Hp} {st st0 : DSt} {d : D} {v : V} {Q' : DK} {Q : VK} (h : Rt st0 Q' d st) (s0 : RS T K M0 st0 H0) (k : Kn T K M0 H0 Q' Q) (g : Grow M0 H0 M H) (s : RS T K M st H) (r : RV K M H d v) : Q v H := by
  rcases h with h | ⟨n, h1, h2, h3, h4, h5⟩ | ⟨n, d', h1, h2, h3, h4, h5⟩
  · exact k M H st d v g s r h
  · exact k (M.cut n) H (st.take n) d v (g.cut s0 h1) (s.cut h2 (h4.all s0 h1)) (r.cut h3) h5
  · exact k (M.cut n) H (st.take n) d' v (g.cut s0 h1) (s.cut h2 (h4.all s0 h1)) (h3.rv s r) h5
def startD (n : Nat) (ds : List D) : DEnv := ds.map some ++ List.replicate (n - ds.length) none
theorem RE.start {K : Frag} {M : Pl} {H : Hp} {ds : List D} {vs : List V} (r : RVs K M H ds vs) (N : List Str) : RE K M H (startD N.length ds) (L2.start N vs) := by
  unfold startD L2.start
  refine ⟨by simp [r.length], fun i d e => ?_⟩
  by_cases lt : i < ds.length
  · rw [List.getElem?_append_left (by rw [List.length_map]; exact lt), List.getElem?_map] at e
    rw [List.getElem?_append_left (by rw [List.length_map, ← r.length]; exact lt), List.getElem?_map]
    cases q : ds[i]? with
    | none => rw [q] at e; cases e
    | some y =>
      rw [q] at e
      cases e
      obtain ⟨v, e1, e2⟩ := r.get q
      exact ⟨v, by rw [e1]; rfl, e2⟩
  · rw [List.getElem?_append_right (by rw [List.length_map]; omega), List.getElem?_replicate] at e
    split at e <;> cases e
section
variable {P : Program} {w : World} {K : Frag} {mg : Str → Option Value} {base : Heap} {T : List (Addr × Str)}
theorem fnD_mk {x qual : Str} {st : Stmt} {f : Addr} {fd : FuncData} {N ps : List Str} {k : Nat} {g : DRs} {F' : DTS} (F : Fun K x qual st f fd) (sc : FnScope N ps (defScope st)) (ar : ∀ ds st Q, g ds st Q → ds.length = ps.length)
    (body : ∀ (cdv : Value) (A : Around) (outer : List Env) (s : Shared) (H : Hp) (E : XK), A.guards = some [] → Room k (A.deeper (envOfC qual (defScope st) s.heap.objs.size f cdv)) → DSs T (cxOf CX0 P w K mg base N qual (defScope st) f cdv A outer s H E).nox (defBody st) F')
    (sem : ∀ ds st Q, g ds st Q → F' { nx := fun _ st' => Rt st Q .non st', rt := Rt st Q } (startD N.length ds) st) : FnD P w K mg base T (k + 1) f fd ps g := by
  refine ⟨fnG_mk F sc (fun vs H Q E h => h.1) (fun cdv A outer s H vs Q E gd room h => ⟨_, body cdv A outer s H E gd room, ?_⟩), ar⟩
  obtain ⟨_, M, st', ds, Q', rs, rv, hg, kn⟩ := h
  refine ⟨M, startD N.length ds, st', _, rs, RE.start rv N, sem ds st' Q' hg, ?_⟩
  exact ⟨fun M1 H1 σ1 r1 st1 g1 s1 re1 q => Rt.sound q rs kn g1 s1 .non, fun M1 H1 st1 d v g1 s1 r1 q => Rt.sound q rs kn g1 s1 r1, fun _ _ _ _ _ _ _ _ q => q.elim, fun _ _ _ _ _ _ _ _ q => q.elim⟩
theorem FnD.mono {j k : Nat} {f : Addr} {fd : FuncData} {ps : List Str} {g : DRs} (F : FnD P w K mg base T j f fd ps g) (h : j ≤ k) : FnD P w K mg base T k f fd ps g :=
  ⟨⟨F.fn.size, fun A outer s H args us vs Q E gd room => F.fn.go A outer s H args us vs Q E gd (room.mono h)⟩, F.ar⟩
theorem FnD.imp {k : Nat} {f : Addr} {fd : FuncData} {ps : List Str} {g g' : DRs} (F : FnD P w K mg base T k f fd ps g) (h : ∀ ds st Q, g' ds st Q → g ds st Q) : FnD P w K mg base T k f fd ps g' :=
  ⟨⟨fun vs H Q E q => q.1, fun A outer s H args us vs Q E gd room e0 bd rel q => by
    obtain ⟨l, M, st, ds, Q', rs, rv, hg, kn⟩ := q
    exact F.fn.go A outer s H args us vs Q E gd room e0 bd rel ⟨l, M, st, ds, Q', rs, rv, h _ _ _ hg, kn⟩⟩, fun ds st Q q => F.ar ds st Q (h _ _ _ q)⟩
end
section
variable {T : List (Addr × Str)} {X : Cx} {a b : Expr} {fa fb : DTE} {pos : Pos}
theorem de_call {k : Nat} {f : Addr} {fd : FuncData} {ps : List Str} {g : DRs} {x : Str} {p : Pos} {e : Expr} {es : List Expr} {fs : DTA}
    (F : FnD X.prog X.w X.K X.mg X.base T k f fd ps g) (gd : X.A.guards = some []) (room : Room k X.A) (gl : Gl X x)
    (at_ : X.mg x = some (.ref f)) (keep : PySem.W.keepIn X.K (.ref f) = true) (bd : Binds X.K fd ps []) (args : DA T X (e :: es) fs)
    (h1 : (x == ("__debug__" : Str)) = false := by decide)
    (h2 : starEach (e :: es) X.env = (false, eval e X.env) :: starEach es X.env := by rfl)
    (h3 : (backTo pos (starEach es X.env)).any (·.1) = false := by rfl) :
    DE T X (.Call (.Name x p) (e :: es) [] pos) (dCB g fs) :=
  PE.imp (pe_callG F.fn gd room gl at_ keep bd args h1 h2 h3) fun σ H Q ⟨M, r, st, Q', s, re, h, k⟩ => ⟨M, r, st, _, s, re, h, fun M1 H1 st1 ds vs g1 s1 r1 q => by
    show spD T X.K ps.length g (vs ++ []) H1 Q E0
    rw [List.append_nil]
    exact ⟨by rw [← r1.length]; exact F.ar _ _ _ q, M1, st1, ds, Q', s1, r1, q, k.grow g1⟩⟩
def onL (st : DSt) (d : D) (k : Nat → List D → Prop) : Prop := match d with
  | .ref n => match st[n]? with | some (.lst xs) => k n xs | _ => False
  | _ => False
theorem onL.of {st : DSt} {d : D} {k : Nat → List D → Prop} (h : onL st d k) : ∃ n xs, d = .ref n ∧ st[n]? = some (.lst xs) ∧ k n xs := by
  cases d with
  | ref n =>
    unfold onL at h
    simp only at h
    split at h
    · rename_i xs e; exact ⟨n, xs, rfl, e, h⟩
    · exact h.elim
  | _ => exact h.elim
theorem onL.rd {T : List (Addr × Str)} {K : Frag} {M : Pl} {H : Hp} {st : DSt} {n : Nat} {xs : List D} {v : V} (s : RS T K M st H) (r : RV K M H (.ref n) v) (e : st[n]? = some (.lst xs)) : ∃ a ys, v = .ref a ∧ M.at_ n = some a ∧ H a = some (.lst ys) ∧ RVs K M H xs ys := by
  cases r with
  | ref hm =>
    obtain ⟨ys, e1, e2⟩ := s.obj n _ _ hm e
    exact ⟨_, ys, rfl, hm, e1, e2⟩
theorem Kn.setL {T : List (Addr × Str)} {K : Frag} {M : Pl} {H : Hp} {st : DSt} {Q' : DK} {Q : VK} {n : Nat} {a : Addr} {ds : List D} {ys : List V} {d : D} {v : V} (k : Kn T K M H Q' Q) (s : RS T K M st H) (hm : M.at_ n = some a) (r : RVs K M H ds ys) (rv : RV K M H d v) (q : Q' d (st.set n (.lst ds))) : Q v (upd H a (.lst ys)) := by
  have gw : Grow M H M (upd H a (.lst ys)) := Grow.write s.nd hm
  exact k M _ _ d v gw (s.write (u := .lst ds) hm ⟨ys, upd_same, r.grow gw⟩) (rv.grow gw) q
def MtD (T : List (Addr × Str)) (K : Frag) (r : V → List V → Hp → VK → Prop) (r' : D → List D → DSt → DK → Prop) : Prop := ∀ (M : Pl) (H : Hp) (st : DSt) (x : D) (ds : List D) (v : V) (vs : List V) (Q' : DK) (Q : VK), RS T K M st H → RV K M H x v → RVs K M H ds vs → r' x ds st Q' → Kn T K M H Q' Q → r v vs H Q
def LstD (st : DSt) (x : D) : Prop := match x with | .lst _ => True | .ref n => (match st[n]? with | some (.lst _) => True | _ => False) | _ => False
theorem LstD.ty {K : Frag} {M : Pl} {H : Hp} {st : DSt} {x : D} {v : V} (s : RS T K M st H) (r : RV K M H x v) (h : LstD st x) : tyV K "list" v H := by
  cases r with
  | lst n e rs => exact .inl ⟨rfl, _, .inl (.inl e)⟩
  | scr n e rs => exact h.elim
  | lsk e rs => exact h.elim
  | ref hm =>
    obtain ⟨o, e1, ro⟩ := s.atM hm
    unfold LstD at h
    simp only [e1] at h
    cases o with
    | lst xs => obtain ⟨ys, e2, _⟩ := ro; exact .inl ⟨rfl, ys, .inl (.inl e2)⟩
    | dK _ => exact h.elim
    | dT _ => exact h.elim
  | _ => exact h.elim
def dMtL (r' : D → List D → DSt → DK → Prop) (fo : DTE) (fs : DTA) : DTE := fun r st Q => fo r st fun x st1 => LstD st1 x ∧ fs r st1 fun ds st2 => r' x ds st2 Q
theorem de_bmL {o e : Expr} {es : List Expr} {name : Str} {apos cpos : Pos} {id : String} {r : V → List V → Hp → VK → Prop} {r' : D → List D → DSt → DK → Prop} {fo : DTE} {fs : DTA} (slot : Slot "list" name id) (hty : typeOf (.builtin id) = pure (.type "method_descriptor")) (hm : MtR X id r) (hd : MtD T X.K r r') (ho : DE T X o fo) (ha : DA T X (e :: es) fs)
    (h1 : attributeBase o name X.env (eval o X.env) = eval o X.env := by rfl)
    (h2 : ((backTo cpos (starEach (e :: es) X.env)).all (fun x => !x.1) && (backToKw cpos (keywordEach [] X.env)).all (fun x => x.1.isSome) && decide ((e :: es).length + ([] : List Keyword).length + (if ([] : List Keyword).isEmpty then 0 else 1) < 30)) = true := by rfl)
    (h3 : (apos.endLine == cpos.line) = true := by rfl) (h4 : starEach (e :: es) X.env = (false, eval e X.env) :: starEach es X.env := by rfl) (h5 : (backTo cpos (starEach es X.env)).any (·.1) = false := by rfl) :
    DE T X (.Call (.Attribute o name apos) (e :: es) [] cpos) (dMtL r' fo fs) :=
  PE.imp (pe_bm PySem.F.plainAttrs_list slot hty hm ho ha h1 h2 h3 h4 h5) fun σ H Q ⟨M, ρ, st, Q', s, re, h, k⟩ => ⟨M, ρ, st, _, s, re, h, fun M1 H1 st1 x v g1 s1 r1 q => ⟨q.1.ty s1 r1, M1, ρ, st1, _, s1, re.grow g1, q.2, fun M2 H2 st2 ds vs g2 s2 r2 q2 =>
    hd M2 H2 st2 x ds v vs Q' Q s2 (r1.grow g2) r2 q2 ((k.grow g1).grow g2)⟩⟩
def mAppend : D → List D → DSt → DK → Prop := fun x ds st Q => on1 ds fun y => onL st x fun n xs => xs.length < sizeLine ∧ Q .non (st.set n (.lst (xs ++ [y])))
theorem mtD_append {K : Frag} : MtD T K rAppend mAppend := by
  intro M H st x ds v vs Q' Q s rx rs h k
  obtain ⟨y, rfl, h⟩ := on1.of h
  obtain ⟨n, xs, rfl, e, lt, q⟩ := onL.of h
  obtain ⟨w, rfl, rw'⟩ := rs.one
  obtain ⟨a, ys, rfl, hm, e1, e2⟩ := onL.rd s rx e
  exact ⟨a, ys, w, rfl, rfl, e1, by rw [← e2.length]; exact lt, k.setL s hm (e2.append (.cons rw' .nil)) .non q⟩
def mPopAt : D → List D → DSt → DK → Prop := fun x ds st Q => on1 ds fun y => onI y fun i => onL st x fun n xs => (-(2 ^ 63) ≤ i ∧ i < 2 ^ 63) ∧ onO (seqIndex? i xs.length) fun k => onO xs[k]? fun d => Q d (st.set n (.lst (xs.eraseIdx k)))
theorem mtD_popAt {K : Frag} : MtD T K rPopAt mPopAt := by
  intro M H st x ds v vs Q' Q s rx rs h k
  obtain ⟨y, rfl, h⟩ := on1.of h
  obtain ⟨i, rfl, h⟩ := onI.of h
  obtain ⟨n, xs, rfl, e, lt, q⟩ := onL.of h
  obtain ⟨j, e3, q⟩ := onO.of q
  obtain ⟨d, e4, q⟩ := onO.of q
  obtain ⟨w, rfl, rw'⟩ := rs.one
  cases rw'
  obtain ⟨a, ys, rfl, hm, e1, e2⟩ := onL.rd s rx e
  obtain ⟨z, e5, rz⟩ := e2.get e4
  exact ⟨a, ys, i, j, z, rfl, rfl, e1, lt.1, lt.2, by rw [← e2.length]; exact e3, e5, k.setL s hm (e2.eraseIdx j) rz q⟩
def intsD : List D → Option (List Int)
  | [] => some []
  | .int b :: r => (intsD r).map (b :: ·)
  | _ => none
theorem intsD_of : ∀ {ds : List D} {bs : List Int}, intsD ds = some bs → ds = bs.map D.int
  | [], bs, h => by cases h; rfl
  | .int b :: r, bs, h => by
    unfold intsD at h
    cases q : intsD r with
    | none => rw [q] at h; cases h
    | some cs => rw [q] at h; cases h; rw [intsD_of q]; rfl
  | .non :: r, bs, h => by cases h
  | .bl _ :: r, bs, h => by cases h
  | .str _ :: r, bs, h => by cases h
  | .tup _ :: r, bs, h => by cases h
  | .tuk _ :: r, bs, h => by cases h
  | .lst _ :: r, bs, h => by cases h
  | .scr _ :: r, bs, h => by cases h
  | .ref _ :: r, bs, h => by cases h
theorem intsD_map {α : Type} (g : α → Int) : ∀ xs : List α, intsD (xs.map fun x => D.int (g x)) = some (xs.map g)
  | [] => rfl
  | x :: r => by rw [List.map_cons, List.map_cons]; unfold intsD; rw [intsD_map g r]; rfl
theorem intsD_ints (ns : List Int) : intsD (ns.map D.int) = some ns := by
  have z := intsD_map (fun i : Int => i) ns
  rw [List.map_id'] at z
  exact z
def ixOf (z : Int) : List Int → Option Nat
  | [] => none
  | x :: r => if x = z then some 0 else (ixOf z r).map (· + 1)
theorem ixOf_spec {z : Int} : ∀ {ns : List Int} {j : Nat}, ixOf z ns = some j → ns[j]? = some z ∧ ∀ m, m < j → ns[m]? ≠ some z
  | [], j, h => by cases h
  | x :: r, j, h => by
    unfold ixOf at h
    by_cases e : x = z
    · rw [if_pos e] at h
      cases h
      exact ⟨by rw [e]; rfl, fun m lt => absurd lt (Nat.not_lt_zero m)⟩
    · rw [if_neg e] at h
      cases q : ixOf z r with
      | none => rw [q] at h; cases h
      | some k =>
        rw [q] at h
        cases h
        obtain ⟨a, b⟩ := ixOf_spec q
        refine ⟨a, fun m lt => ?_⟩
        cases m with
        | zero => intro w; cases w; exact e rfl
        | succ m => exact fun w => b m (Nat.lt_of_succ_lt_succ lt) (by simpa using w)
theorem ixOf_mem {z : Int} : ∀ {ns : List Int}, z ∈ ns → ∃ j, ixOf z ns = some j
  | x :: r, h => by
    unfold ixOf
    by_cases e : x = z
    · rw [if_pos e]; exact ⟨0, rfl⟩
    · rw [if_neg e]
      obtain ⟨j, q⟩ := ixOf_mem (List.mem_of_ne_of_mem (fun w => e w.symm) h)
      exact ⟨j + 1, by rw [q]; rfl⟩
def IdxD (st : DSt) (x : D) : Prop := match x with
  | .tup _ => True
  | .lst _ => True
  | .ref n => (match st[n]? with | some (.lst _) => True | _ => False)
  | _ => False
def ixS (st : DSt) : D → Option (List D)
  | .tup xs => some xs
  | .lst xs => some xs
  | .ref n => match st[n]? with | some (.lst ds) => some ds | _ => none
  | _ => none
def mIndex : D → List D → DSt → DK → Prop := fun x ds st Q => on1 ds fun y => onI y fun z => onO (ixS st x) fun xs => onO (intsD xs) fun ns => onO (ixOf z ns) fun j => Q (.int (j : Nat)) st
def dIndex (fo : DTE) (fs : DTA) : DTE := fun r st Q => fo r st fun x st1 => IdxD st1 x ∧ fs r st1 fun ds st2 => mIndex x ds st2 Q
theorem eqV_int (a b : Int) : eqV (.int a) (.int b) = decide (a = b) := by
  by_cases h : a = b
  · subst h; simp [eqV]
  · simp [eqV, h]
theorem flatV_ints (ns : List Int) : (ns.map V.int).all flatV = true := by
  rw [List.all_eq_true]
  intro x hx
  obtain ⟨i, _, rfl⟩ := List.mem_map.mp hx
  rfl
theorem rIndex_ints {K : Frag} {H : Hp} {a : Addr} {ns : List Int} {z : Int} {j : Nat} {Q : VK} (hs : SqL K H a (ns.map V.int)) (e : ixOf z ns = some j) (q : Q (.int (j : Nat)) H) : rIndex K (.ref a) [.int z] H Q := by
  obtain ⟨a1, a2⟩ := ixOf_spec e
  refine ⟨a, _, .int z, j, .int z, rfl, rfl, hs, rfl, flatV_ints ns, by rw [List.getElem?_map, a1]; rfl, by rw [eqV_int]; exact decide_eq_true rfl, fun m z' lt hz => ?_, q⟩
  rw [List.getElem?_map] at hz
  obtain ⟨u, hu, rfl⟩ := Option.map_eq_some_iff.mp hz
  rw [eqV_int]
  exact decide_eq_false fun w => a2 m lt (by rw [hu, w])
def tIdx2 (K : Frag) (to : TE) (t : TA) : TE := fun σ H Q => to σ H fun x H1 => ((∃ p xs, x = .ref p ∧ FzT H1 p xs) ∧ t σ H1 fun vs H2 => rIndexT K x vs H2 Q) ∨ (tyV K "list" x H1 ∧ t σ H1 fun vs H2 => rIndex K x vs H2 Q)
theorem pe_idx2 {o e : Expr} {es : List Expr} {to : TE} {t : TA} {apos cpos : Pos} (ho : PE X o to) (ha : PA X (e :: es) t)
    (h1 : attributeBase o "index" X.env (eval o X.env) = eval o X.env := by rfl)
    (h2 : ((backTo cpos (starEach (e :: es) X.env)).all (fun x => !x.1) && (backToKw cpos (keywordEach [] X.env)).all (fun x => x.1.isSome) && decide ((e :: es).length + ([] : List Keyword).length + (if ([] : List Keyword).isEmpty then 0 else 1) < 30)) = true := by rfl)
    (h3 : (apos.endLine == cpos.line) = true := by rfl) (h4 : starEach (e :: es) X.env = (false, eval e X.env) :: starEach es X.env := by rfl) (h5 : (backTo cpos (starEach es X.env)).any (·.1) = false := by rfl) :
    PE X (.Call (.Attribute o "index" apos) (e :: es) [] cpos) (tIdx2 X.K to t) := by
  constructor
  intro pins s σ H Q I h
  refine wpAny_Call_method_late h1 h2 h3 rfl (thn (ho.run pins s σ H _ I h) ?_)
  rintro v s1 ⟨x, H1, I1, r1, (⟨⟨p, xs, rfl, ob, hp, dn⟩, q1⟩ | ⟨ty, q1⟩)⟩
  · obtain rfl : v = Value.ref p := r1
    obtain ⟨at_, _, its, _, ob2, at2, cl, _⟩ := I1.hok p _ hp
    rw [at_] at at2
    cases at2
    refine ⟨"tuple", _, PySem.F.plainAttrs_tuple, PySem.F.slot_tuple_index, PySem.F.type_tuple_index, ⟨ob, at_, cl⟩, fun a ea => ?_, ?_⟩
    · cases ea
      exact ⟨ob, at_, dn⟩
    · have run := ha.run cpos pins s1 σ H1 _ I1 q1
      rw [h4] at run ⊢
      refine Calls.callWith_builtin (by show (false || (backTo cpos (starEach es X.env)).any (·.1)) = false; rw [h5]; rfl) (Calls.evalArgs_plain ?_)
      refine thn run ?_
      rintro us s2 ⟨vs, H2, I2, r2, q2⟩
      exact mt_tup_indexI pins s2 σ H2 (.ref p) vs _ us Q I2 rfl r2 q2
  · obtain ⟨y1, y2⟩ := tyV_is I1 r1 ty
    refine ⟨"list", _, PySem.F.plainAttrs_list, PySem.F.slot_list_index, PySem.F.type_list_index, y1, y2, ?_⟩
    have run := ha.run cpos pins s1 σ H1 _ I1 q1
    rw [h4] at run ⊢
    refine Calls.callWith_builtin (by show (false || (backTo cpos (starEach es X.env)).any (·.1)) = false; rw [h5]; rfl) (Calls.evalArgs_plain ?_)
    refine thn run ?_
    rintro us s2 ⟨vs, H2, I2, r2, q2⟩
    exact mt_index pins s2 σ H2 x vs v us Q I2 r1 r2 q2
theorem de_index {o e : Expr} {es : List Expr} {apos cpos : Pos} {fo : DTE} {fs : DTA} (ho : DE T X o fo) (ha : DA T X (e :: es) fs)
    (h1 : attributeBase o "index" X.env (eval o X.env) = eval o X.env := by rfl)
    (h2 : ((backTo cpos (starEach (e :: es) X.env)).all (fun x => !x.1) && (backToKw cpos (keywordEach [] X.env)).all (fun x => x.1.isSome) && decide ((e :: es).length + ([] : List Keyword).length + (if ([] : List Keyword).isEmpty then 0 else 1) < 30)) = true := by rfl)
    (h3 : (apos.endLine == cpos.line) = true := by rfl) (h4 : starEach (e :: es) X.env = (false, eval e X.env) :: starEach es X.env := by rfl) (h5 : (backTo cpos (starEach es X.env)).any (·.1) = false := by rfl) :
    DE T X (.Call (.Attribute o "index" apos) (e :: es) [] cpos) (dIndex fo fs) :=
  PE.imp (pe_idx2 ho ha h1 h2 h3 h4 h5) fun σ H Q ⟨M, ρ, st, Q', s, re, h, k⟩ => ⟨M, ρ, st, _, s, re, h, fun M1 H1 st1 x v g1 s1 r1 q => by
    obtain ⟨qt, q⟩ := q
    cases x with
    | tup xs =>
      have r1' := r1
      cases r1 with
      | tup n e0 e3 rs =>
        refine .inl ⟨⟨_, _, rfl, _, e0, e3⟩, M1, ρ, st1, _, s1, re.grow g1, q, fun M2 H2 st2 ds vs g2 s2 r2 q2 => ?_⟩
        obtain ⟨y, rfl, q3⟩ := on1.of q2
        obtain ⟨z, rfl, q4⟩ := onI.of q3
        obtain ⟨xs', e0, q4⟩ := onO.of q4
        cases e0
        obtain ⟨ns, e1, q5⟩ := onO.of q4
        obtain ⟨j, e2, q6⟩ := onO.of q5
        obtain ⟨w, rfl, rw'⟩ := r2.one
        cases rw'
        have e1 := intsD_of e1
        subst e1
        have r3 := r1'.grow g2
        cases r3 with
        | tup n' e0' e3' rs' =>
          have zz := rs'.ints
          subst zz
          obtain ⟨a1, a2⟩ := ixOf_spec e2
          exact ⟨_, ns, z, j, rfl, rfl, .inl (.inr ⟨_, e0'⟩), a1, a2, ((k.grow g1).grow g2).here s2 (.int _) q6⟩
    | lst xs =>
      have r1' := r1
      cases r1 with
      | lst n e0 rs =>
        refine .inr ⟨.inl ⟨rfl, _, .inl (.inl e0)⟩, M1, ρ, st1, _, s1, re.grow g1, q, fun M2 H2 st2 ds vs g2 s2 r2 q2 => ?_⟩
        obtain ⟨y, rfl, q3⟩ := on1.of q2
        obtain ⟨z, rfl, q4⟩ := onI.of q3
        obtain ⟨xs', e0, q4⟩ := onO.of q4
        cases e0
        obtain ⟨ns, e1, q5⟩ := onO.of q4
        obtain ⟨j, e2, q6⟩ := onO.of q5
        obtain ⟨w, rfl, rw'⟩ := r2.one
        cases rw'
        have e1 := intsD_of e1
        subst e1
        have r3 := r1'.grow g2
        cases r3 with
        | lst n' e0' rs' =>
          have zz := rs'.ints
          subst zz
          exact rIndex_ints (.inl (.inl e0')) e2 (((k.grow g1).grow g2).here s2 (.int _) q6)
    | ref m =>
      have r1' := r1
      cases r1 with
      | ref hm =>
        obtain ⟨o1, eo, ro⟩ := s1.atM hm
        unfold IdxD at qt
        simp only [eo] at qt
        cases o1 with
        | dK _ => exact qt.elim
        | dT _ => exact qt.elim
        | lst zs =>
          obtain ⟨ys, hy, _⟩ := ro
          refine .inr ⟨.inl ⟨rfl, ys, .inl (.inl hy)⟩, M1, ρ, st1, _, s1, re.grow g1, q, fun M2 H2 st2 ds vs g2 s2 r2 q2 => ?_⟩
          obtain ⟨y, rfl, q3⟩ := on1.of q2
          obtain ⟨z, rfl, q4⟩ := onI.of q3
          obtain ⟨xs', e0, q4⟩ := onO.of q4
          obtain ⟨ns, e1, q5⟩ := onO.of q4
          obtain ⟨j, e2, q6⟩ := onO.of q5
          obtain ⟨w, rfl, rw'⟩ := r2.one
          cases rw'
          have e1 := intsD_of e1
          subst e1
          have r3 := r1'.grow g2
          cases r3 with
          | ref hm2 =>
            obtain ⟨o2, eo2, ro2⟩ := s2.atM hm2
            unfold ixS at e0
            simp only [eo2] at e0
            cases o2 with
            | dK _ => cases e0
            | dT _ => cases e0
            | lst us =>
              cases e0
              obtain ⟨ws, hw, rs'⟩ := ro2
              have zz := rs'.ints
              subst zz
              exact rIndex_ints (.inl (.inl hw)) e2 (((k.grow g1).grow g2).here s2 (.int _) q6)
    | _ => exact qt.elim⟩
end
end DL
namespace DL
open PySem PySem.Spec PyProof.Rows L2 LamX PySem.W SL
theorem mulOne (l : Addr) (its : Array Value) (n : Nat) (dd : Option Addr) (sl : Array (Option Value)) (u : Tok) :
    Meets (Builtin.«tuple.__mul__» ⟨[.ref l, .int 1 u], []⟩) (fun _ R s => s.heap.get? l = some ⟨.type "tuple", dd, .seq its n, sl⟩ ∧ R (.ok (.ret (.ref l))) s) :=
  .of_wp fun prog w A R s h => by
    obtain ⟨hp, g, d, tk, os⟩ := s
    obtain ⟨hl, q⟩ := h
    have f1 := AutoSeq1.idx_int
    wp_walk using wpAny_loadPart' hl
    exact ⟨_, rfl, q⟩
def rRepF (K : Frag) : R2 := fun x y H Q => ∃ (l : Addr) (k : Nat) (xs : List V), x = .ref l ∧ y = .int k ∧ SqT K H l xs ∧ xs ≠ [] ∧ 1 ≤ k ∧ k ≤ 1000 ∧ xs.length ≤ 1000 ∧
  (k = 1 → Q (.ref l) H) ∧ (2 ≤ k → ∀ (p : Addr) (ob : Obj), H p = none → ob.dict = none → Q (.ref p) (upd H p (.frz ob (.tup (List.replicate k xs).flatten))))
theorem op_repF {X : Cx} : OpR X (binaryOp .Mult) (rRepF X.K) := by
  intro pins s σ H x y v u Q I rx ry h
  obtain ⟨l, k, xs, rfl, rfl, hT, hne, k1, k2, hz, q1, q2⟩ := h
  cases rx
  obtain ⟨t, rfl⟩ := ry
  obtain ⟨its, r, ⟨⟨cls, dd, data, sl⟩, ho, hc, n, hd⟩, hs⟩ := I.tuple hT
  simp only at hc hd
  subst hc hd
  have le : its.length = xs.length := r.length.symm
  by_cases e : k = 1
  · subst e
    exact wpAny_binaryOp_repeat_ref (T := "tuple") (U := "int") (by decide)
      ⟨_, ho, rfl⟩ (fun s' => typeIs_int s' _ t) noFill_tuple_mul F.fills_int_mul
      F.slot_int_rmul repeat_tuple F.slot_int_index.lookup
      (call_meets F.slot_int_rmul (typeIs_int s _ t) F.entry_int_rmul
        (F.args_int_rmul_2 _ _) (int_rmul_tuple _ t l its.toArray n dd sl)
        ⟨ho, rfl, ⟨_, ho, rfl⟩, call_meets F.slot_tuple_mul ⟨_, ho, rfl⟩
          F.entry_tuple_mul (F.args_tuple_mul_2 _ _) (mulOne l its.toArray n dd sl t) ⟨ho, .ref l, H, I, rfl, q1 rfl⟩⟩)
  · have two : 2 ≤ k := by omega
    have ne : its.toArray.isEmpty = false := by
      cases its with
      | nil => exact absurd (List.eq_nil_of_length_eq_zero le.symm) hne
      | cons _ _ => rfl
    have sz : its.toArray.size = xs.length := by rw [List.size_toArray, le]
    have nat : xs.length * k ≤ 1000000 := Nat.le_trans (Nat.mul_le_mul hz k2) (by decide)
    have big : ((its.toArray.size : Nat) : Int) * (k : Int) ≤ 1000000 := by
      rw [sz]
      rw [← Int.natCast_mul]
      exact Int.ofNat_le.mpr nat
    have fl : (List.replicate k its).flatten.length ≤ sizeLine := by
      rw [lm_len_rep_flat, le, sizeLine_eq, Nat.mul_comm]
      omega
    have z0 : (decide ((k : Int) < -(2 ^ 63)) || decide ((k : Int) ≥ 2 ^ 63)) = false := by
      rw [Bool.or_eq_false_iff]
      exact ⟨decide_eq_false (by omega), decide_eq_false (by omega)⟩
    have z1 : (its.toArray.isEmpty || (k : Int) == 1) = false := by
      rw [ne]
      exact beq_eq_false_iff_ne.mpr (by omega)
    have z2 : (decide ((k : Int) ≤ 0) || its.toArray.isEmpty) = false := by
      rw [ne, decide_eq_false (by omega)]
      rfl
    have z4 : Builtin.Tuple.tupleTooMany (((its.toArray.size : Nat) : Int) * (k : Int)) = false := by
      unfold Builtin.Tuple.tupleTooMany
      refine decide_eq_false ?_
      rw [sizeLine_eq]
      omega
    refine wpAny_binaryOp_repeat_ref (T := "tuple") (U := "int") (by decide)
      ⟨_, ho, rfl⟩ (fun s' => typeIs_int s' _ t) noFill_tuple_mul F.fills_int_mul
      F.slot_int_rmul repeat_tuple F.slot_int_index.lookup
      (call_meets F.slot_int_rmul (typeIs_int s _ t) F.entry_int_rmul
        (F.args_int_rmul_2 _ _) (int_rmul_tuple _ t l its.toArray n dd sl)
        ⟨ho, rfl, ⟨_, ho, rfl⟩, call_meets F.slot_tuple_mul ⟨_, ho, rfl⟩
          F.entry_tuple_mul (F.args_tuple_mul_2 _ _) (tuple_mulW l its.toArray n dd sl _ t z0 z1 z2 (by omega) z4 (by rw [size_rep, List.size_toArray]; exact fl)) ⟨ho, ?_⟩⟩)
    rw [size_rep]
    refine ⟨.ref s.heap.objs.size, _, I.laid (t' := s.toks) (o := .frz { cls := .type "tuple", data := .seq (List.replicate (k : Int).toNat its).flatten.toArray } (.tup (List.replicate k xs).flatten))
      (fun b ob q => Heap.get?_push_of_some _ q) (Nat.le_refl _) ?_, rfl, q2 two _ _ (I.hok.fresh (Nat.le_refl _)) rfl⟩
    exact ⟨Heap.get?_push_size _ rfl, by rw [lm_len_rep_flat, ← le, ← lm_len_rep_flat]; exact fl, _, r.rep k, IsTup.new _ _⟩
def tRevF (K : Frag) (te : TE) : TE := fun σ H Q => te σ H fun x H1 => ∃ a xs, x = .ref a ∧ SqT K H1 a xs ∧ ∀ (p : Addr) (ob : Obj), H1 p = none → ob.dict = none → Q (.ref p) (upd H1 p (.frz ob (.tup xs.reverse)))
theorem pe_revF {X : Cx} {e : Expr} {te : TE} {k : Nat} {p1 p2 p3 pos : Pos} (he : PE X e te) :
    PE X (.Subscript e (.Slice none none (some (.UnaryOp .USub (.Constant (.int 1) k p1) p2)) p3) pos) (tRevF X.K te) := by
  constructor
  intro pins s σ H Q I h
  refine Subscript_ (thn (he.run pins s σ H _ I h) ?_)
  rintro v s1 ⟨x, H1, I1, r1, a, xs, rfl, hx, q⟩
  cases r1
  have step : PO X (some (.UnaryOp .USub (.Constant (.int 1) k p1) p2)) (tPart (tUn (rU fun i => .int (-i)) (tC (.int 1)))) := po_some (pe_un un_neg pe_int)
  refine wpAny_Slice (thn (po_none.run pins s1 σ H1 (fun o G => o = none ∧ G = H1) I1 ⟨rfl, rfl⟩) ?_)
  rintro vl s2 ⟨l, H2, I2, pl, rfl, rfl⟩
  refine thn (po_none.run pins s2 σ H2 (fun o G => o = none ∧ G = H2) I2 ⟨rfl, rfl⟩) ?_
  rintro vu s3 ⟨u, H3, I3, pu, rfl, rfl⟩
  refine thn (step.run pins s3 σ H3 (fun o G => o = some (-1) ∧ G = H3) I3 ⟨1, rfl, -1, rfl, rfl, rfl⟩) ?_
  rintro vs s4 ⟨o, H4, I4, ps, rfl, rfl⟩
  have I5 : Inv X pins σ H4 { s4 with heap := s4.heap.push { cls := .type "slice", data := .fields #[vl, vu, vs] } } := I4.kept (t' := s4.toks) fun b ob z => Heap.get?_push_of_some _ z
  obtain ⟨its, r, ht, hz⟩ := I5.tuple hx
  have len := r.length
  show wpAny (model X.prog X.w) X.A (subscriptTail e (.Slice none none (some (.UnaryOp .USub (.Constant (.int 1) k p1) p2)) p3) (.ref a) (.ref s4.heap.objs.size)) (EP X pins σ Q) X.xe
    { s4 with heap := s4.heap.push { cls := .type "slice", data := .fields #[vl, vu, vs] } }
  refine tail_any (ops := [.ref a, .ref s4.heap.objs.size]) ht.typeIs PyProof.Rows.slot_tuple_getitem.lookup ?_ (by with_unfolding_all rfl)
  have hsl : Heap.IsSliceOf (s4.heap.push { cls := .type "slice", data := .fields #[vl, vu, vs] }) s4.heap.objs.size vl vu vs := Heap.IsSliceOf.new _ vl vu vs
  obtain ⟨os, hos, hcs, hds⟩ := id hsl
  have typ : Shared.TypeIs { s4 with heap := s4.heap.push { cls := .type "slice", data := .fields #[vl, vu, vs] } } (.ref s4.heap.objs.size) "slice" := ⟨os, hos, hcs⟩
  have small : sizeOk (.seq its.reverse.toArray) := by
    show its.reverse.toArray.size ≤ sizeLine
    rw [List.size_toArray, List.length_reverse, ← len]
    exact hz
  have fin : EP X pins σ Q (.ref (s4.heap.push { cls := .type "slice", data := .fields #[vl, vu, vs] }).objs.size)
      { s4 with heap := (s4.heap.push { cls := .type "slice", data := .fields #[vl, vu, vs] }).push { cls := .type "tuple", data := .seq its.reverse.toArray } } := by
    refine ⟨.ref _, _, I5.laid (t' := s4.toks) (o := .frz { cls := .type "tuple", data := .seq its.reverse.toArray } (.tup xs.reverse)) (fun b ob z => Heap.get?_push_of_some _ z) (Nat.le_refl _) ?_, rfl, q _ _ (I5.hok.fresh (Nat.le_refl _)) rfl⟩
    exact ⟨Heap.get?_push_size _ rfl, by rw [List.length_reverse]; exact hz, _, r.reverse, ⟨_, Heap.get?_push_size _ rfl, rfl, _, rfl⟩⟩
  unfold getItem
  try with_reducible refine wpAny_holding ?_
  first | refine wpAny_bind (wpAny_pure ?_) | skip
  refine wpAny_bind (wpAny_sequenceKey ht.typeIs (by decide) ?_)
  refine wpAny_bind (wpAny_callSpecial?_slot (name := Str.ofString "__getitem__") ht.typeIs PyProof.Rows.slot_tuple_getitem (wpAny_call_entry PyProof.Rows.slot_tuple_getitem ht.typeIs PyProof.Rows.entry_tuple_getitem ?_ (PyProof.Rows.args_tuple_getitem _ _)))
  show wpAny _ _ (Builtin.Tuple.tupleItemsOf (.ref a) >>= _) _ _ _
  refine wpAny_bind (PyProof.Rows.tupleItemsOf_ ht ?_)
  refine wpAny_bind (wpAny_typeOf typ ?_)
  rw [if_pos (by decide)]
  refine wpAny_bind ?_
  unfold Builtin.Slice.sliceApplied Builtin.Slice.sliceFields
  refine wpAny_bind (wpAny_bind (wpAny_field hos hds (x := vl) rfl (wpAny_bind (wpAny_field hos hds (x := vu) rfl (wpAny_bind (wpAny_field hos hds (x := vs) rfl (wpAny_pure ?_)))))))
  refine wpAny_bind (HT.slicePart_ ps ?_)
  show wpAny _ _ (if ((-1 : Int) == 0) = true then _ else _) _ _ _
  rw [if_neg (by decide)]
  refine wpAny_bind (HT.slicePart_ pl (wpAny_bind (HT.slicePart_ pu (wpAny_bind (wpAny_pure ?_)))))
  show wpAny _ _ (match Builtin.Slice.sliceAdjust none none (-1) (its.toArray.size : Int) with | (lo, hi) => pure (lo, (-1 : Int), Builtin.Slice.slicePlaces lo hi (-1))) _ _ _
  rw [adjustBack]
  show wpAny _ _ (pure (((its.toArray.size : Int) - 1), (-1 : Int), Builtin.Slice.slicePlaces ((its.toArray.size : Int) - 1) (-1) (-1))) _ _ _
  rw [placesBack]
  refine wpAny_pure ?_
  have hno : ¬ ((((its.toArray.size : Int) - 1) == 0 && (-1 : Int) == 1 && its.toArray.size == its.toArray.size) = true) := by
    rw [show ((-1 : Int) == 1) = false from rfl, Bool.and_false, Bool.false_and]
    exact Bool.false_ne_true
  show wpAny _ _ (if (((its.toArray.size : Int) - 1) == 0 && (-1 : Int) == 1 && its.toArray.size == its.toArray.size) = true then _ else _) _ _ _
  rw [if_neg hno, pickBack]
  first
    | exact wpAny_bind (m := Builtin.Tuple.tupleExact _) (wpAny_newObj_type (wpAny_pure ⟨_, rfl, wpAny_pure fin⟩) small)
    | exact wpAny_bind (m := Builtin.Tuple.tupleExact _) (wpAny_newObj_type (wpAny_bind (wpAny_pure (wpAny_pure ⟨_, rfl, wpAny_pure fin⟩))) small)
    | exact wpAny_bind (wpAny_bind (m := Builtin.Tuple.tupleExact _) (wpAny_newObj_type (wpAny_pure (wpAny_pure ⟨_, rfl, wpAny_pure fin⟩)) small))
    | exact wpAny_bind (wpAny_bind (m := Builtin.Tuple.tupleExact _) (wpAny_newObj_type (wpAny_pure ⟨_, rfl, wpAny_pure fin⟩) small))
end DL
namespace DL
open PySem PySem.Spec PyProof.Rows L2 LamX PySem.W SL
def lstS (st : DSt) : D → Option (List D)
  | .lst ds => some ds
  | .ref n => match st[n]? with | some (.lst ds) => some ds | _ => none
  | _ => none
section
variable {T : List (Addr × Str)} {X : Cx} {K : Frag} {M : Pl} {H : Hp} {st : DSt}
theorem lstS.rd {d : D} {v : V} {ds : List D} (s : RS T K M st H) (r : RV K M H d v) (e : lstS st d = some ds) : ∃ a xs, v = .ref a ∧ H a = some (.lst xs) ∧ RVs K M H ds xs := by
  cases r with
  | lst n h rs => cases e; exact ⟨_, _, rfl, h, rs⟩
  | ref h =>
    obtain ⟨o, e1, ro⟩ := s.atM h
    unfold lstS at e
    simp only [e1] at e
    cases o with
    | lst xs => cases e; obtain ⟨ys, q, rs⟩ := ro; exact ⟨_, ys, rfl, q, rs⟩
    | dK _ => cases e
    | dT _ => cases e
  | _ => cases e
theorem fin_new' {fin : DK → List D → DSt → Prop} (fo : fin = finT ∨ fin = finN) {ds : List D} {xs : List V} {Q' : DK} {Q : VK} {q : Addr} (k : Kn T K M H Q' Q) (s : RS T K M st H) (r : RVs K M H ds xs) (nq : H q = none) (h : fin Q' ds st) : Q (.ref q) (upd H q (.lst xs)) := by
  rcases fo with rfl | rfl
  · exact k.lst s r nq h
  · exact k.own s r nq h
def rInsL : V → List V → Hp → VK → Prop := fun x vs H Q => ∃ (l : Addr) (xs : List V) (i : Int) (y : V), x = .ref l ∧ vs = [.int i, y] ∧ H l = some (.lst xs) ∧ xs.length < sizeLine ∧ 0 ≤ i ∧ i < 2 ^ 63 ∧ Q .non (upd H l (.lst (xs.take i.toNat ++ [y] ++ xs.drop i.toNat)))
def mInsert : D → List D → DSt → DK → Prop := fun x ds st Q => on2 ds fun i y => onI i fun i => onL st x fun n xs => (xs.length < sizeLine ∧ 0 ≤ i ∧ i < 2 ^ 63) ∧ Q .non (st.set n (.lst (xs.take i.toNat ++ [y] ++ xs.drop i.toNat)))
theorem mtD_insert : MtD T K rInsL mInsert := by
  intro M H st x ds v vs Q' Q s r rs h k
  obtain ⟨i, y, rfl, h⟩ := on2.of h
  obtain ⟨i, rfl, h⟩ := onI.of h
  obtain ⟨n, xs, rfl, e, ⟨l1, l2, l3⟩, q⟩ := onL.of h
  obtain ⟨w, u, rfl, rw', ru⟩ := rs.two
  cases rw'
  obtain ⟨a, us, rfl, hm, ha, rus⟩ := onL.rd s r e
  refine ⟨a, us, i, u, rfl, rfl, ha, by rw [← rus.length]; exact l1, l2, l3, k.setL s hm (((rus.take i.toNat).append (.cons ru .nil)).append (rus.drop i.toNat)) .non q⟩
end
end DL
namespace DL
open PySem PySem.Spec PyProof.Rows L2 LamX PySem.W SL
section
variable {T : List (Addr × Str)} {X : Cx} {a b c e : Expr} {es : List Expr} {fa fb fc f : DTE} {fs : DTA} {pos p : Pos} {K : Frag}
def dAddG (fin : DK → List D → DSt → Prop) : DR2 := fun x y st Q => match x, y with
  | .int i, .int j => Q (.int (i + j)) st
  | .tup xs, .tup ys => xs.length + ys.length ≤ sizeLine ∧ Q (.tup (xs ++ ys)) st
  | .str i, .str j => i.length + j.length ≤ sizeLine ∧ Q (.str (i ++ j)) st
  | x, y => onO (lstS st x) fun xs => onO (lstS st y) fun ys => xs.length + ys.length ≤ sizeLine ∧ fin Q (xs ++ ys) st
abbrev dAdd : DR2 := dAddG finT
def rAdd (K : Frag) : R2 := fun x y H Q => ((rI0 fun i j => .int (i + j)) x y H Q ∨ rCatF K x y H Q) ∨ ((∃ i j, x = .str i ∧ y = .str j ∧ i.length + j.length ≤ sizeLine ∧ Q (.str (i ++ j)) H) ∨ rCat x y H Q)
theorem op_addA : OpR X (binaryOp .Add) (rAdd X.K) := OpR.or (OpR.or op_add op_catF) (OpR.or op_add_str op_cat)
theorem opD_add {fin : DK → List D → DSt → Prop} (fo : fin = finT ∨ fin = finN) : OpD T K (rAdd K) (dAddG fin) := by
  intro M H st x y vx vy Q' Q s rx ry h k
  unfold dAddG at h
  split at h
  · cases rx
    cases ry
    exact .inl (.inl ⟨_, _, rfl, rfl, k.here s (.int _) h⟩)
  · obtain ⟨le, q⟩ := h
    have rx' := rx
    have ry' := ry
    cases rx with
    | tup n1 e1 d1 r1 =>
      cases ry with
      | tup n2 e2 d2 r2 =>
        refine .inl (.inr ⟨_, _, _, _, rfl, rfl, .inl (.inr ⟨_, e1⟩), .inl (.inr ⟨_, e2⟩), by rw [← r1.length, ← r2.length]; exact le, fun z => ?_, fun z1 z => ?_, fun z1 z2 p ob np hd => k.tup s (r1.append r2) np hd q⟩)
        · have zz := r1.nil_iff.mpr z
          subst zz
          exact k.here s ry' q
        · have zz := r2.nil_iff.mpr z
          subst zz
          rw [List.append_nil] at q
          exact k.here s rx' q
  · cases rx
    cases ry
    exact .inr (.inl ⟨_, _, rfl, rfl, h.1, k.here s (.str _) h.2⟩)
  · obtain ⟨xs, e1, h⟩ := onO.of h
    obtain ⟨ys, e2, le, q⟩ := onO.of h
    obtain ⟨a, us, rfl, ha, ru⟩ := lstS.rd s rx e1
    obtain ⟨b, ws, rfl, hb, rw'⟩ := lstS.rd s ry e2
    exact .inr (.inr ⟨a, b, us, ws, rfl, rfl, ha, hb, by rw [← ru.length, ← rw'.length]; exact le, fun p np => fin_new' fo k s (ru.append rw') np q⟩)
theorem de_add (ha : DE T X a fa) (hb : DE T X b fb) : DE T X (.BinOp a .Add b pos) (dOp dAdd fa fb) := de_op op_addA (opD_add (.inl rfl)) ha hb
theorem RVs.reverse {M : Pl} {H : Hp} : ∀ {ds : List D} {xs : List V}, RVs K M H ds xs → RVs K M H ds.reverse xs.reverse
  | _, _, .nil => .nil
  | _, _, .cons h t => by
    rw [List.reverse_cons, List.reverse_cons]
    exact (RVs.reverse t).append (.cons h .nil)
theorem RVs.rep {M : Pl} {H : Hp} {ds : List D} {xs : List V} (r : RVs K M H ds xs) : ∀ n : Nat, RVs K M H (List.replicate n ds).flatten (List.replicate n xs).flatten
  | 0 => .nil
  | n + 1 => by
    rw [List.replicate_succ, List.replicate_succ, List.flatten_cons, List.flatten_cons]
    exact r.append (RVs.rep r n)
def dMulG (fin : DK → List D → DSt → Prop) : DR2 := fun x y st Q => match x, y with
  | .int i, .int j => CMul i j ∧ Q (.int (i * j)) st
  | .tup xs, .int k => xs ≠ [] ∧ 1 ≤ k ∧ k ≤ 1000 ∧ xs.length ≤ 1000 ∧ Q (.tup (List.replicate k.toNat xs).flatten) st
  | x, .int k => onO (lstS st x) fun xs => (-1000 ≤ k ∧ xs.length * k.toNat ≤ 1000 ∧ k ≤ 100000000) ∧ fin Q (List.replicate k.toNat xs).flatten st
  | _, _ => False
abbrev dMul : DR2 := dMulG finT
def rMulA (K : Frag) : R2 := fun x y H Q => ((rI CMul fun i j => .int (i * j)) x y H Q ∨ rRepF K x y H Q) ∨ rRep x y H Q
theorem op_mulA : OpR X (binaryOp .Mult) (rMulA X.K) := OpR.or (OpR.or op_mul op_repF) op_rep
theorem opD_mul {fin : DK → List D → DSt → Prop} (fo : fin = finT ∨ fin = finN) : OpD T K (rMulA K) (dMulG fin) := by
  intro M H st x y vx vy Q' Q s rx ry h k
  unfold dMulG at h
  split at h
  · cases rx
    cases ry
    exact .inl (.inl ⟨_, _, rfl, rfl, h.1, k.here s (.int _) h.2⟩)
  · rename_i ds m
    obtain ⟨h1, h2, h3, h4, q⟩ := h
    have rx' := rx
    cases ry
    cases rx with
    | tup n1 e1 d1 r1 =>
      have em : ((m.toNat : Nat) : Int) = m := by omega
      refine .inl (.inr ⟨_, m.toNat, _, rfl, by rw [em], .inl (.inr ⟨_, e1⟩), fun z => h1 (r1.nil_iff.mpr z), by omega, by omega, by rw [← r1.length]; exact h4, fun z => ?_, fun _ p ob np hd => k.tup s (r1.rep m.toNat) np hd q⟩)
      rw [z, List.replicate_one, List.flatten_singleton] at q
      exact k.here s rx' q
  · obtain ⟨xs, e1, ⟨h1, h2, h3⟩, q⟩ := onO.of h
    obtain ⟨a, us, rfl, ha, ru⟩ := lstS.rd s rx e1
    cases ry
    have big : (1000 : Nat) ≤ sizeLine := by decide
    exact .inr ⟨a, _, us, rfl, rfl, ha, by omega, by omega, by rw [← ru.length]; omega, fun p np => fin_new' fo k s (ru.rep _) np q⟩
  · exact h.elim
theorem de_mul (ha : DE T X a fa) (hb : DE T X b fb) : DE T X (.BinOp a .Mult b pos) (dOp dMul fa fb) := de_op op_mulA (opD_mul (.inl rfl)) ha hb
def dRevV (x : D) (st : DSt) (Q : DK) : Prop := match x with
  | .tup xs => Q (.tup xs.reverse) st
  | _ => False
def dRev (f : DTE) : DTE := fun r st Q => f r st fun x st1 => dRevV x st1 Q
theorem de_rev {k : Nat} {p1 p2 p3 : Pos} (he : DE T X e f) : DE T X (.Subscript e (.Slice none none (some (.UnaryOp .USub (.Constant (.int 1) k p1) p2)) p3) pos) (dRev f) :=
  PE.imp (pe_revF he) fun σ H Q ⟨M, r, st, Q', s, re, h, k⟩ => ⟨M, r, st, _, s, re, h, fun M1 H1 st1 x vx g1 s1 r1 q1 => by
    have k1 := k.grow g1
    unfold dRevV at q1
    split at q1
    · cases r1 with
      | tup n e0 d0 rs => exact ⟨_, _, rfl, .inl (.inr ⟨_, e0⟩), fun p ob np hd => k1.tup s1 (RVs.reverse rs) np hd q1⟩
    · exact q1.elim⟩
abbrev DTO := DEnv → DSt → (Option Int → DSt → Prop) → Prop
def liftO (T : List (Addr × Str)) (K : Frag) (f : DTO) : TO := fun σ H Q => ∃ M r st Q', RS T K M st H ∧ RE K M H r σ ∧ f r st Q' ∧ ∀ M' H' st' o, Grow M H M' H' → RS T K M' st' H' → Q' o st' → Q o H'
abbrev DO (T : List (Addr × Str)) (X : Cx) (e : Option Expr) (f : DTO) : Prop := PO X e (liftO T X.K f)
theorem PO.imp {e : Option Expr} {t t' : TO} (h : PO X e t) (i : ∀ σ H Q, t' σ H Q → t σ H Q) : PO X e t' := ⟨fun pins s σ H Q I z => h.run pins s σ H Q I (i σ H Q z)⟩
def oNone : DTO := fun _ st Q => Q none st
def oSome (f : DTE) : DTO := fun r st Q => f r st fun d st1 => onI d fun i => Q (some i) st1
theorem do_none : DO T X none oNone := PO.imp po_none fun σ H Q ⟨M, r, st, Q', s, re, h, k⟩ => k M H st none (Grow.refl M H) s h
theorem do_some (he : DE T X e f) : DO T X (some e) (oSome f) := PO.imp (po_some he) fun σ H Q ⟨M, r, st, Q', s, re, h, k⟩ => ⟨M, r, st, _, s, re, h, fun M1 H1 st1 d v g1 s1 r1 q => by
  obtain ⟨i, rfl, q⟩ := onI.of q
  cases r1
  exact ⟨i, rfl, k M1 H1 st1 _ g1 s1 q⟩⟩
def cutD (xs : List D) (lo hi : Option Int) : List D := (xs.drop (HT.sIx xs.length 0 lo)).take (HT.sIx xs.length xs.length hi - HT.sIx xs.length 0 lo)
theorem RVs.cutV {M : Pl} {H : Hp} {ds : List D} {vs : List V} (r : RVs K M H ds vs) (lo hi : Option Int) : RVs K M H (cutD ds lo hi) (L2.cutV vs lo hi) := by
  unfold cutD L2.cutV
  rw [r.length]
  exact (r.drop _).take _
def dSlV (fin : DK → List D → DSt → Prop) : D → Option Int → Option Int → DSt → DK → Prop := fun x lo hi st Q => match x with
  | .tup xs => Q (.tup (cutD xs lo hi)) st
  | .lst xs => fin Q (cutD xs lo hi) st
  | .ref n => onO (seqS st (.ref n)) fun xs => fin Q (cutD xs lo hi) st
  | _ => False
def dSlG (fin : DK → List D → DSt → Prop) (f : DTE) (lo hi : DTO) : DTE := fun r st Q => f r st fun x st1 => lo r st1 fun l st2 => hi r st2 fun u st3 => dSlV fin x l u st3 Q
def rSl2 (K : Frag) : V → Option Int → Option Int → Hp → VK → Prop := fun x lo hi H Q => rSlF K x lo hi H Q ∨ rSlL K x lo hi H Q
theorem sl_2 : SlR X (rSl2 X.K) := SlR.or sl_F sl_list
theorem fin_new {fin : DK → List D → DSt → Prop} (fo : fin = finT ∨ fin = finN) {M : Pl} {H : Hp} {st : DSt} {ds : List D} {xs : List V} {Q' : DK} {Q : VK} {q : Addr} (k : Kn T K M H Q' Q) (s : RS T K M st H) (r : RVs K M H ds xs) (nq : H q = none) (h : fin Q' ds st) : Q (.ref q) (upd H q (.lst xs)) := by
  rcases fo with rfl | rfl
  · exact k.lst s r nq h
  · exact k.own s r nq h
theorem cut_whole {xs : List D} {lo hi : Option Int} (h : HT.sIx xs.length 0 lo = 0 ∧ HT.sIx xs.length xs.length hi = xs.length) : cutD xs lo hi = xs := by
  unfold cutD
  rw [h.1, h.2]
  simp
theorem de_slice {fin : DK → List D → DSt → Prop} (fo : fin = finT ∨ fin = finN) {lo hi : Option Expr} {flo fhi : DTO} {p2 : Pos} (he : DE T X e f) (hl : DO T X lo flo) (hu : DO T X hi fhi) : DE T X (.Subscript e (.Slice lo hi none p2) pos) (dSlG fin f flo fhi) :=
  PE.imp (pe_slice sl_2 he hl hu) fun σ H Q ⟨M, r, st, Q', s, re, h, k⟩ => ⟨M, r, st, _, s, re, h, fun M1 H1 st1 x vx g1 s1 r1 q1 => ⟨M1, r, st1, _, s1, re.grow g1, q1, fun M2 H2 st2 l g2 s2 q2 => ⟨M2, r, st2, _, s2, (re.grow g1).grow g2, q2, fun M3 H3 st3 u g3 s3 q3 => by
    have rx := (r1.grow g2).grow g3
    have k3 := ((k.grow g1).grow g2).grow g3
    unfold dSlV at q3
    split at q3
    · have rx' := rx
      cases rx with
      | tup n e0 d0 rs =>
        refine .inl ⟨_, _, rfl, .inl (.inr ⟨_, e0⟩), fun wh => ?_, fun _ p ob np hd => k3.tup s3 (rs.cutV l u) np hd q3⟩
        rw [← rs.length] at wh
        rw [cut_whole wh] at q3
        exact k3.here s3 rx' q3
    · cases rx with
      | lst n e0 rs => exact .inr ⟨_, _, rfl, .inl (.inl e0), fun q nq => fin_new fo k3 s3 (rs.cutV l u) nq q3⟩
    · obtain ⟨xs, e0, q3⟩ := onO.of q3
      cases rx with
      | ref hm =>
        obtain ⟨o, e1, ro⟩ := s3.atM hm
        unfold seqS at e0
        simp only [e1] at e0
        cases o with
        | lst zs => cases e0; obtain ⟨ys, q, rs⟩ := ro; exact .inr ⟨_, ys, rfl, .inl (.inl q), fun q nq => fin_new fo k3 s3 (rs.cutV l u) nq q3⟩
        | dK _ => cases e0
        | dT _ => cases e0
    · exact q3.elim⟩⟩⟩
def dSortI (fin : DK → List D → DSt → Prop) : DRs := fun ds st Q => on1 ds fun x => onO (seqS st x) fun xs => onO (intsD xs) fun ns => ns.length ≤ 100000 ∧ ∀ out : List Int, out.Perm ns → out.Pairwise (· ≤ ·) → fin Q (out.map D.int) st
def rSort2 (K : Frag) : List V → Hp → VK → Prop := fun vs H Q => rSortedI K vs H Q ∨ rSortT K vs H Q
theorem call_sort2 : CallR X (.builtin "sorted") (rSort2 X.K) := CallR.or cr_sortedI cr_sortT
theorem callD_sort {fin : DK → List D → DSt → Prop} (fo : fin = finT ∨ fin = finN) : CallD T K (rSort2 K) (dSortI fin) := by
  intro M H st ds vs Q' Q s r h k
  obtain ⟨x, rfl, h1⟩ := on1.of h
  obtain ⟨xs, e, h2⟩ := onO.of h1
  obtain ⟨ns, e2, le, h3⟩ := onO.of h2
  have e2 := intsD_of e2
  subst e2
  obtain ⟨v, rfl, rv⟩ := r.one
  obtain ⟨p, ys, rfl, sq, rs⟩ := seqS.rd s rv e
  have z := rs.ints
  subst z
  rcases sq with sq | sq
  · exact .inl ⟨p, ns, rfl, sq, fun out q p1 p2 nq => fin_new fo k s (RVs.of_ints out) nq (h3 out p1 p2)⟩
  · exact .inr ⟨p, ns, rfl, sq, fun out q p1 p2 nq => fin_new fo k s (RVs.of_ints out) nq (h3 out p1 p2)⟩
def dLRg1 (fin : DK → List D → DSt → Prop) (f : DTE) : DTE := fun r st Q => f r st fun x st1 => onI x fun j => RgOk 0 j ∧ fin Q (rgD 0 j.toNat) st1
theorem RVs.of_rg {M : Pl} {H : Hp} (lo : Int) (n : Nat) : RVs K M H (rgD lo n) ((List.range n).map fun i => V.int (lo + (i : Nat))) := by
  unfold rgD
  generalize List.range n = l
  induction l with
  | nil => exact .nil
  | cons i l ih => exact .cons (.int _) ih
theorem de_listRg1 {fin : DK → List D → DSt → Prop} (fo : fin = finT ∨ fin = finN) {p2 pos2 : Pos} (hc : X.calm = true) (hg : Gl X "list") (hm : X.mg "list" = none) (hg2 : Gl X "range") (hm2 : X.mg "range" = none) (ha : DE T X a f)
    (na : starEach [a] X.env = (false, eval a X.env) :: starEach [] X.env := by rfl) (nb : starEach [Expr.Call (.Name "range" p2) [a] [] pos2] X.env = (false, eval (Expr.Call (.Name "range" p2) [a] [] pos2) X.env) :: starEach [] X.env := by rfl) :
    DE T X (.Call (.Name "list" p) [.Call (.Name "range" p2) [a] [] pos2] [] pos) (dLRg1 fin f) :=
  PE.imp (pe_listRg hc hg hm (prg_1 hg2 hm2 ha na) nb) fun σ H Q ⟨M, r, st, Q', s, re, h, k⟩ => ⟨M, r, st, _, s, re, h, fun M1 H1 st1 x vx g1 s1 r1 q1 => by
    obtain ⟨j, rfl, ok, q2⟩ := onI.of q1
    cases r1
    refine ⟨j, rfl, ok, fun q nq => fin_new fo (k.grow g1) s1 ?_ nq q2⟩
    unfold rgV
    rw [Int.sub_zero]
    exact RVs.of_rg 0 j.toNat⟩
def tyN (st : DSt) : D → Option String
  | .non => some "NoneType" | .bl _ => some "bool" | .int _ => some "int" | .str _ => some "str" | .lst _ => some "list" | .scr _ => some "list" | .tup _ => some "tuple" | .tuk _ => some "tuple"
  | .ref n => match st[n]? with | some (.lst _) => some "list" | some (.dK _) => some "dict" | some (.dT _) => some "dict" | none => none
theorem RV.ty {M : Pl} {H : Hp} {st : DSt} {d : D} {v : V} {t : String} (s : RS T K M st H) (r : RV K M H d v) (h : DL.tyN st d = some t) : TyX K H v (.type t) := by
  cases r with
  | non => cases h; exact .base .non
  | bl b => cases h; exact .base (.bl b)
  | int i => cases h; exact .base (.int i)
  | str x => cases h; exact .base (.str x)
  | tup n e d rs => cases h; exact .fTuple e
  | tuk n e rs => cases h; exact .base (.tup e)
  | lst n e rs => cases h; exact .base (.lst e)
  | scr n e rs =>
    cases h
    rcases e with e | ⟨o, e⟩
    · exact .base (.lst e)
    · exact .base (.frz e)
  | lsk e rs =>
    cases h
    rcases e (fun _ => none) with (z | ⟨o, z⟩) | ⟨o, its, n, h1, h2, _⟩
    · cases z
    · cases z
    · exact .kList h1 h2
  | ref hm =>
    obtain ⟨o, e1, ro⟩ := s.atM hm
    unfold DL.tyN at h
    simp only [e1] at h
    cases o with
    | lst zs => cases h; obtain ⟨ys, q, rs⟩ := ro; exact .base (.lst q)
    | dK zs => cases h; obtain ⟨ys, q, rs⟩ := ro; exact .base (.dK q)
    | dT zs => cases h; obtain ⟨ys, q, rs⟩ := ro; exact .base (.dT q)
def subTy (t u : String) : Bool := decide (t = u) || (decide (t = "bool") && decide (u = "int"))
def dIsi (u : String) (f : DTE) : DTE := fun r st Q => f r st fun x st1 => onO (DL.tyN st1 x) fun t => Q (.bl (subTy t u)) st1
end
abbrev DPE := DEnv → DSt → Option D
def liftP (T : List (Addr × Str)) (K : Frag) (f : DPE) : TE := fun σ H Q => ∃ M r st d, RS T K M st H ∧ RE K M H r σ ∧ f r st = some d ∧ ∀ H' v, Same H H' → RV K M H' d v → Q v H'
abbrev DP (T : List (Addr × Str)) (X : Cx) (e : Expr) (f : DPE) : Prop := PE X e (liftP T X.K f)
theorem grow_ext {T : List (Addr × Str)} {K : Frag} {M : Pl} {st : DSt} {H H' : Hp} (s : RS T K M st H) (e : ExtN H H') : Grow M H M H' :=
  ⟨⟨[], (Pl.app_nil M).symm, fun _ h => nomatch h⟩, fun a o _ h t => e a o h t, fun a ⟨o, h, t⟩ => ⟨o, e a o h t, t⟩, fun a ha => by
    obtain ⟨xs, q⟩ := s.hid a ha
    rw [q]
    exact e a _ q (fun ps z => by cases z)⟩
theorem RS.ext {T : List (Addr × Str)} {K : Frag} {M : Pl} {st : DSt} {H H' : Hp} (s : RS T K M st H) (e : ExtN H H') (t : Tabs T H') : RS T K M st H' := by
  refine ⟨s.len, s.nd, fun n a o e1 e2 => ?_, t, s.hid.keep (grow_ext s e)⟩
  have ro := s.obj n a o e1 e2
  refine ro.stay (grow_ext s e) ?_
  rcases ro.mut with ⟨xs, q⟩ | ⟨xs, q⟩ | ⟨xs, q⟩ <;> (rw [q]; exact e _ _ q (fun ps z => by cases z))
theorem RS.same {T : List (Addr × Str)} {K : Frag} {M : Pl} {st : DSt} {H H' : Hp} (s : RS T K M st H) (e : Same H H') : RS T K M st H' := s.ext (ExtN.of e) (s.tabs.ext e)
theorem same_grow {T : List (Addr × Str)} {K : Frag} {M : Pl} {st : DSt} {H H' : Hp} (s : RS T K M st H) (e : Same H H') : Grow M H M H' := grow_ext s (ExtN.of e)
theorem sameT {H H1 H2 : Hp} (a : Same H H1) (b : Same H1 H2) : Same H H2 := fun c o h => b c o (a c o h)
theorem same_up {H : Hp} {p : Addr} {o : HO} (h : H p = none) : Same H (upd H p o) := fun b u e => by rw [upd_ne (ne_of_none e h)]; exact e
section
variable {T : List (Addr × Str)} {X : Cx} {a b : Expr} {fa fb : DPE} {pos p : Pos}
def pVar (i : Nat) : DPE := fun r _ => match r[i]? with | some (some d) => some d | _ => none
def pNeg (f : DPE) : DPE := fun r st => match f r st with | some (.int i) => some (.int (-i)) | _ => none
def pLen (f : DPE) : DPE := fun r st => match f r st with | some d => (match seqS st d with | some xs => some (.int xs.length) | none => none) | none => none
def pIx (f g : DPE) : DPE := fun r st => match f r st, g r st with | some d, some (.int i) => (match seqS st d with | some xs => atI xs i | none => none) | _, _ => none
def pIndex (f g : DPE) : DPE := fun r st => match f r st, g r st with | some (.tup xs), some (.int z) => (match intsD xs with | some ns => (ixOf z ns).map fun j => .int (j : Nat) | none => none) | _, _ => none
def pTup2 (f g : DPE) : DPE := fun r st => match f r st, g r st with | some d, some e => some (.tuk [d, e]) | _, _ => none
theorem dp_var {i : Nat} {e : Expr} (h : PE X e (tVar i)) : DP T X e (pVar i) := PE.imp h fun σ H Q ⟨M, r, st, d, s, re, hf, k⟩ => by
  unfold pVar at hf
  split at hf
  · rename_i d' e
    cases hf
    obtain ⟨v, e1, rv⟩ := re.at_ i _ e
    exact ⟨v, e1, k H v (fun _ _ h => h) rv⟩
  · cases hf
theorem dp_neg (ha : DP T X a fa) : DP T X (.UnaryOp .USub a pos) (pNeg fa) := PE.imp (pe_un un_neg ha) fun σ H Q ⟨M, r, st, d, s, re, hf, k⟩ => by
  unfold pNeg at hf
  split at hf
  · rename_i i e
    cases hf
    exact ⟨M, r, st, _, s, re, e, fun H1 v sm rv => by cases rv; exact ⟨i, rfl, k H1 _ sm (.int _)⟩⟩
  · cases hf
theorem dp_len (hg : Gl X "len") (hm : X.mg "len" = none) (ha : DP T X a fa) (hs : starEach [a] X.env = (false, eval a X.env) :: starEach [] X.env := by rfl) : DP T X (.Call (.Name "len" p) [a] [] pos) (pLen fa) :=
  PE.imp (pe_callB call_len_seq hg hm PySem.boot_len (pa_cons ha pa_nil hs) (by decide) (by decide) hs rfl) fun σ H Q ⟨M, r, st, d, s, re, hf, k⟩ => by
    unfold pLen at hf
    split at hf
    · rename_i y e1
      split at hf
      · rename_i xs e2
        cases hf
        refine ⟨M, r, st, _, s, re, e1, fun H1 v sm rv => ?_⟩
        obtain ⟨q, ys, rfl, sq, rs⟩ := seqS.rd (s.same sm) rv e2
        refine ⟨q, ys, rfl, sq, ?_⟩
        rw [← rs.length]
        exact k H1 _ sm (.int _)
      · cases hf
    · cases hf
theorem dp_ix (ha : DP T X a fa) (hb : DP T X b fb) (hs : PlainIx b) : DP T X (.Subscript a b pos) (pIx fa fb) := PE.imp (pe_ix ix_seq ha hb hs) fun σ H Q ⟨M, r, st, d, s, re, hf, k⟩ => by
  unfold pIx at hf
  split at hf
  · rename_i y i e1 e2
    split at hf
    · rename_i xs e3
      refine ⟨M, r, st, _, s, re, e1, fun H1 v sm rv => ⟨M, r, st, _, s.same sm, re.grow (same_grow s sm), e2, fun H2 v2 sm2 rv2 => ?_⟩⟩
      cases rv2
      have sm12 := sameT sm sm2
      obtain ⟨q, ys, rfl, sq, rs⟩ := seqS.rd (s.same sm12) (rv.grow (same_grow (s.same sm) sm2)) e3
      obtain ⟨w, e4, rw'⟩ := rs.atI hf
      rcases sq with sq | sq
      · exact .inl ⟨q, ys, i, w, rfl, rfl, sq, e4, k H2 w sm12 rw'⟩
      · exact .inr (.inl ⟨q, ys, i, w, rfl, rfl, sq, e4, k H2 w sm12 rw'⟩)
    · cases hf
  · cases hf
theorem dp_index {o e : Expr} {apos cpos : Pos} {fo fe : DPE} (ho : DP T X o fo) (ha : DP T X e fe)
    (h1 : attributeBase o "index" X.env (eval o X.env) = eval o X.env := by rfl)
    (h2 : ((backTo cpos (starEach [e] X.env)).all (fun x => !x.1) && (backToKw cpos (keywordEach [] X.env)).all (fun x => x.1.isSome) && decide ([e].length + ([] : List Keyword).length + (if ([] : List Keyword).isEmpty then 0 else 1) < 30)) = true := by rfl)
    (h3 : (apos.endLine == cpos.line) = true := by rfl) (h4 : starEach [e] X.env = (false, eval e X.env) :: starEach [] X.env := by rfl) :
    DP T X (.Call (.Attribute o "index" apos) [e] [] cpos) (pIndex fo fe) :=
  PE.imp (pe_bmF PySem.F.plainAttrs_tuple PySem.F.slot_tuple_index PySem.F.type_tuple_index mt_tup_indexI ho (pa_cons ha pa_nil h4) h1 h2 h3 h4 rfl) fun σ H Q ⟨M, r, st, d, s, re, hf, k⟩ => by
    unfold pIndex at hf
    split at hf
    · rename_i xs z e1 e2
      split at hf
      · rename_i ns e3
        simp only [Option.map_eq_some_iff] at hf
        obtain ⟨j, e4, rfl⟩ := hf
        have e3 := intsD_of e3
        subst e3
        refine ⟨M, r, st, _, s, re, e1, fun H1 v sm rv => ?_⟩
        have rv' := rv
        cases rv with
        | tup n e0 d0 rs =>
          refine ⟨⟨_, _, rfl, _, e0, d0⟩, M, r, st, _, s.same sm, re.grow (same_grow s sm), e2, fun H2 v2 sm2 rv2 => ?_⟩
          cases rv2
          have r3 := rv'.grow (same_grow (s.same sm) sm2)
          cases r3 with
          | tup n' e0' d0' rs' =>
            have zz := rs'.ints
            subst zz
            obtain ⟨a1, a2⟩ := ixOf_spec e4
            exact ⟨_, ns, z, j, rfl, rfl, .inl (.inr ⟨_, e0'⟩), a1, a2, k H2 _ (sameT sm sm2) (.int _)⟩
      · cases hf
    · cases hf
theorem dp_tup2 {x1} (ha : DP T X a fa) (hb : DP T X b fb) (h1 : starEach [a, b] X.env = (false, eval a X.env) :: starEach [b] X.env := by rfl) (h2 : starEach [b] X.env = (false, eval b X.env) :: starEach [] X.env := by rfl) : DP T X (.Tuple [a, b] x1 pos) (pTup2 fa fb) :=
  PE.imp (pe_tup (pa_cons ha (pa_cons hb pa_nil h2) h1)) fun σ H Q ⟨M, r, st, d, s, re, hf, k⟩ => by
    unfold pTup2 at hf
    split at hf
    · rename_i y z e1 e2
      cases hf
      refine ⟨M, r, st, _, s, re, e1, fun H1 v sm rv => ⟨M, r, st, _, s.same sm, re.grow (same_grow s sm), e2, fun H2 v2 sm2 rv2 => ⟨by show 2 ≤ sizeLine; decide, fun p np => ?_⟩⟩⟩
      have sm3 : Same H2 (upd H2 p (.tup [v, v2])) := same_up np
      have s2 := s.same (sameT sm sm2)
      refine k _ _ (sameT (sameT sm sm2) sm3) (.tuk (s2.notin np) upd_same (.cons ?_ (.cons ?_ .nil)))
      · exact (rv.grow (same_grow (s.same sm) sm2)).grow (same_grow s2 sm3)
      · exact rv2.grow (same_grow s2 sm3)
    · cases hf
end
def KeyD (d : D) (k : PyData) : Prop := (∃ i : Int, d = .int i ∧ k = .int i) ∨ ∃ i j : Int, d = .tuk [.int i, .int j] ∧ k = .tuple [.int i, .int j]
theorem RE.snoc {K : Frag} {M : Pl} {H : Hp} {r : DEnv} {σ : L2.St} {d : D} {v : V} (h : RE K M H r σ) (rv : RV K M H d v) : RE K M H (r ++ [some d]) (σ ++ [some v]) := by
  refine ⟨by simp [h.len], fun i c e => ?_⟩
  by_cases lt : i < r.length
  · rw [List.getElem?_append_left lt] at e
    rw [List.getElem?_append_left (by rw [← h.len]; exact lt)]
    exact h.at_ i c e
  · rw [List.getElem?_append_right (by omega)] at e
    rw [List.getElem?_append_right (by rw [← h.len]; omega)]
    have i0 : i - r.length = 0 := by
      have := (List.getElem?_eq_some_iff.mp e).1
      simp at this
      omega
    rw [i0] at e
    rw [← h.len, i0]
    cases e
    exact ⟨v, rfl, rv⟩
end DL
namespace DL
open PySem PySem.Spec PyProof.Rows L2 LamX PySem.W SL
section
variable {T : List (Addr × Str)} {X : Cx} {a b c e : Expr} {es : List Expr} {fa fb fc f : DTE} {fs : DTA} {pos p : Pos} {K : Frag}
def dLtG : DR2 := fun x y st Q => match x, y with
  | .int i, .int j => Q (.bl (decide (i < j))) st
  | .tup xs, .tup ys => onO (intsD xs) fun ns => onO (intsD ys) fun ms => Q (.bl (HT.lexLt ns ms)) st
  | _, _ => False
def rLtG (K : Frag) : R2 := fun x y H Q => (rI0 fun i j => .bl (decide (i < j))) x y H Q ∨ rLtT K x y H Q
theorem op_ltG (hu : X.A.units < cLine) : OpR X (compareOp .Lt) (rLtG X.K) := OpR.or op_lt (op_ltT hu)
theorem opD_ltG : OpD T K (rLtG K) dLtG := by
  intro M H st x y vx vy Q' Q s rx ry h k
  unfold dLtG at h
  split at h
  · cases rx
    cases ry
    exact .inl ⟨_, _, rfl, rfl, k.here s (.bl _) h⟩
  · rename_i xs ys
    obtain ⟨ns, e1, h1⟩ := onO.of h
    obtain ⟨ms, e2, h2⟩ := onO.of h1
    have e1 := intsD_of e1
    have e2 := intsD_of e2
    subst e1
    subst e2
    cases rx with
    | tup n1 e1 d1 r1 =>
      cases ry with
      | tup n2 e2 d2 r2 =>
        have z1 := r1.ints
        have z2 := r2.ints
        subst z1
        subst z2
        exact .inr ⟨_, _, ns, ms, rfl, rfl, .inl (.inr ⟨_, e1⟩), .inl (.inr ⟨_, e2⟩), k.here s (.bl _) h2⟩
  · exact h.elim
def perm {α : Type} (ix : List Nat) (xs : List α) : List α := ix.filterMap (xs[·]?)
theorem RVs.perm {M : Pl} {H : Hp} {ds : List D} {vs : List V} (r : RVs K M H ds vs) : ∀ ix : List Nat, RVs K M H (DL.perm ix ds) (DL.perm ix vs)
  | [] => .nil
  | i :: ix => by
    unfold DL.perm
    rw [List.filterMap_cons, List.filterMap_cons]
    cases q : ds[i]? with
    | none =>
      have z : vs[i]? = none := by
        rw [List.getElem?_eq_none_iff] at q ⊢
        rw [← r.length]
        exact q
      rw [z]
      exact RVs.perm r ix
    | some d =>
      obtain ⟨v, e, rv⟩ := r.get q
      rw [e]
      exact .cons rv (RVs.perm r ix)
theorem PK.imp {kws : List Keyword} {t t' : TA} (h : PK X kws t) (i : ∀ σ H Q, t' σ H Q → t σ H Q) : PK X kws t' := ⟨fun pos pins s σ H Q I z => h.run pos pins s σ H Q I (i σ H Q z)⟩
end
end DL
namespace SL
open PySem PySem.Spec PyProof.Rows L2
section
open PySem.AutoSeq1 (wpAny_loadPart')
set_option maxHeartbeats 1000000 in
theorem enum_new (l : Addr) (items : Array Value) : Meets (Builtin.«enumerate.__new__» ⟨[.type "enumerate", .ref l], []⟩) (fun _ R s => s.heap.IsTuple l items ∧
      R (.ok (.ret (.ref (s.heap.push { cls := .type "tuple_iterator", data := .fields #[.ref l, .int 0 0] }).objs.size)))
        { s with heap := (s.heap.push { cls := .type "tuple_iterator", data := .fields #[.ref l, .int 0 0] }).push { cls := .type "enumerate", data := .fields #[.none, .bool false, .ref s.heap.objs.size, rawInt 0, .none, .none] } }) :=
  .of_wp fun prog w A R s hyp => by
    obtain ⟨hp, gens, dr, tk, os⟩ := s
    obtain ⟨isT, goal⟩ := hyp
    have sub := sub_enumerate
    have iter : ∀ {A' : Around} {E : Value → Shared → Prop} {Q : Value → Shared → Prop}, Q (.ref hp.objs.size) ⟨hp.push { cls := .type "tuple_iterator", data := .fields #[.ref l, .int 0 0] }, gens, dr, tk, os⟩ → wpAny (model prog w) A' (pyIter (.ref l)) Q E ⟨hp, gens, dr, tk, os⟩ :=
      fun q => wpAny_pyIter_tuple isT q
    wp_walk using iter
    refine wpAny_stack_any fun st => wpAny_pure ?_
    split
    · rename_i c _ _ _ _ _
      cases (c == Value.type "enumerate") <;> (wp_walk using iter; exact ⟨_, rfl, goal⟩)
    · wp_walk using iter
      exact ⟨_, rfl, goal⟩
end
section
variable {prog : Program} {w : World} {A : Around} {E : Value → Shared → Prop} {s : Shared}
theorem enum_call {l : Addr} {items : Array Value} {Q : Value → Shared → Prop} (isT : s.heap.IsTuple l items)
    (h : ∀ h', IsEnum h' (s.heap.objs.size + 1) s.heap.objs.size 0 .none → h'.IsTupleIter s.heap.objs.size l 0 →
      (∀ b o, s.heap.get? b = some o → h'.get? b = some o) → Q (.ref (s.heap.objs.size + 1)) { s with heap := h' }) :
    wpAny (model prog w) A (call (.type "enumerate") [.ref l]) Q E s := by
  refine callType_new F.called_enumerate (by decide) (F.typeCall_enumerate_1 _) (F.newCall_enumerate_1 _) (fun obj => F.args_object_init_2 obj _) F.entry_enumerate_new (enum_new l items) ⟨isT, ?_⟩
  have hz : (s.heap.push { cls := .type "tuple_iterator", data := .fields #[.ref l, .int 0 0] }).objs.size = s.heap.objs.size + 1 := Heap.size_push ..
  show _ ∧ _
  rw [hz]
  have he : IsEnum ((s.heap.push { cls := .type "tuple_iterator", data := .fields #[.ref l, .int 0 0] }).push
      { cls := .type "enumerate", data := .fields #[.none, .bool false, .ref s.heap.objs.size, rawInt 0, .none, .none] }) (s.heap.objs.size + 1) s.heap.objs.size 0 .none := by
    have z := Heap.get?_push_size (s.heap.push { cls := .type "tuple_iterator", data := .fields #[.ref l, .int 0 0] })
      (o := { cls := .type "enumerate", data := .fields #[.none, .bool false, .ref s.heap.objs.size, rawInt 0, .none, .none] }) rfl
    rw [hz] at z
    exact z
  exact ⟨⟨_, he, rfl⟩, h _ he ⟨_, Heap.get?_push_of_some _ (Heap.get?_push_size _ rfl), rfl, rfl⟩ fun b o x => Heap.get?_push_of_some _ (Heap.get?_push_of_some _ x)⟩
end
def IteT (K : PySem.W.Frag) (a : Addr) : It :=
  ⟨fun i H => ∃ (xs : List V) (x : V), SqT K H a xs ∧ xs[i]? = some x, fun i H v H' => ∃ T x, v = .ref T ∧ H T = none ∧ H' = upd H T (.tup [.int (i : Nat), x]) ∧ ∀ xs, SqT K H a xs → xs[i]? = some x,
    fun i H => ∃ xs : List V, SqT K H a xs ∧ xs.length = i⟩
theorem turn_enumT {P : Program} {w : World} {K : PySem.W.Frag} {elts : List Expr} {kk : Nat} {tpos : Pos} (a e it : Addr) :
    Turn P w K (.Tuple elts kk tpos) (IteT K a) [e, it] e (fun i h => (∃ old, IsEnum h e it ((i : Nat) : Int) old) ∧ h.IsTupleIter it a i ∧ e ≠ it ∧ a ≠ it ∧ a ≠ e) where
  mem := by simp
  obj := by
    rintro i h ⟨⟨old, he⟩, ⟨o, ho, hc, hd⟩, _⟩ b hb
    have cs : b = e ∨ b = it := by simpa using hb
    rcases cs with z | z
    · rw [z]
      exact ⟨_, he, fun v q => nomatch q⟩
    · rw [z]
      exact ⟨o, ho, fun v q => by rw [hd] at q; cases q⟩
  keep := by
    rintro i h h' ⟨⟨old, he⟩, hi, r⟩ k
    exact ⟨⟨old, k e (by simp) _ he⟩, hi.at fun o q => k it (by simp) o q, r⟩
  item := by
    rintro X rfl rfl rfl calm i pins s σ H E I hf ⟨⟨old, he⟩, hit, hne, ai, ae⟩ ⟨xs, x, hq, hx⟩
    obtain ⟨its, rv, ht, hz⟩ := I.tuple hq
    obtain ⟨u, hu, ru⟩ := rv.get hx
    have hel : e < s.heap.objs.size := Heap.lt_size he
    have hil : it < s.heap.objs.size := by
      obtain ⟨_, q, _⟩ := hit
      exact Heap.lt_size q
    have li : i < its.toArray.size := by
      rw [List.size_toArray]
      exact (List.getElem?_eq_some_iff.mp hu).1
    have dr := Draws.tuple (prog := X.prog) (w := X.w) (A := X.A.in1) (show X.A.in1.handled = none from I.ok.hd calm) it a ai its.toArray
    refine wpAny_pyNext_enum_itemD dr he ⟨hit, ht⟩ li hne (by simp [hne, Ne.symm ae]) fun y h' tk hy ho st' hT hsz hk => ?_
    have ey : y = u := by
      have z : its[i]? = some y := by simpa using hy
      rw [hu] at z
      exact (Option.some.inj z).symm
    subst ey
    refine ⟨_, rfl, wpAny_letOwnedTupleGo_enum (s := { s with heap := h', toks := tk + 1 }) ho fun h'' he' sb => ?_⟩
    have hT2 : h''.get? s.heap.objs.size = some { cls := .type "tuple", data := .seq #[.int i tk, y] } := (sb.2 _ (Nat.ne_of_gt hel)).trans hT
    have fresh : ObjOk X.prog X.w (upd H s.heap.objs.size (.tup [.int (i : Nat), x])) h'' s.heap.objs.size (.tup [.int (i : Nat), x]) :=
      ⟨by show 2 ≤ sizeLine; decide, [.int i tk, y], .cons ⟨_, rfl⟩ (.cons ru .nil), ⟨_, hT2, rfl, _, rfl⟩⟩
    have I1 : Inv X pins σ (upd H s.heap.objs.size (.tup [.int (i : Nat), x])) { s with heap := h'', toks := tk + 1 } :=
      I.turnedNew (ch := [e, it]) (fun b ob hb q => (sb.2 b (fun z => hb (by simp [z]))).trans (hk b ob (fun z => hb (by simp [z])) (fun z => hb (by simp [z])) q)) hf (Nat.le_refl _) fresh
    refine ⟨.ref s.heap.objs.size, _, I1, rfl, ⟨_, x, rfl, I.hok.fresh (Nat.le_refl _), rfl, fun ys hy => by rw [I.tuple_inj hy hq]; exact hx⟩, ⟨⟨y, ?_⟩, st'.1.at fun o q => (sb.2 it (Ne.symm hne)).trans q, hne, ai, ae⟩, fun b hb => ?_⟩
    · rw [show ((i + 1 : Nat) : Int) = (i : Int) + 1 by omega]
      exact he'
    · have hb' : b < s.heap.objs.size := by
        have cs : b = e ∨ b = it := by simpa using hb
        rcases cs with z | z
        · rw [z]
          exact hel
        · rw [z]
          exact hil
      rw [upd_ne (Nat.ne_of_lt hb')]
      exact (hf b hb).1
  done := by
    rintro X rfl rfl rfl calm i pins s σ H E I hf ⟨⟨old, he⟩, hit, hne, ai, ae⟩ ⟨xs, hq, hx⟩
    obtain ⟨its, rv, ht, hz⟩ := I.tuple hq
    obtain ⟨f0, f1, f2, f3, f4, f5⟩ := hf it (by simp)
    have si : its.toArray.size = i := by rw [List.size_toArray, ← rv.length]; exact hx
    have dr := Draws.tuple (prog := X.prog) (w := X.w) (A := X.A.in1) (show X.A.in1.handled = none from I.ok.hd calm) it a ai its.toArray
    exact wpAny_pyNext_enum_endD dr he ⟨by rw [si]; exact hit, ht⟩ fun h' eb => ⟨rfl, I.turned (t' := s.toks) (fun b o hb q => eb b o hb q) f0 f1 f3 f4 f5⟩
  self := fun A i s Q E st h => let ⟨⟨_, he⟩, _⟩ := st; wpAny_pyIter_enum he h
def iEnum2 (K : PySem.W.Frag) (ta : TA) : TI := fun σ H R => ta σ H fun vs H1 => ∃ a, vs = [.ref a] ∧ (((∃ xs, SqL K H1 a xs) ∧ R (Ite K a) H1) ∨ ((∃ xs, SqT K H1 a xs) ∧ R (IteT K a) H1))
theorem pi_enum2 {X : Cx} {e : Expr} {ta : TA} {p pos tpos : Pos} {elts : List Expr} {kk : Nat} (g1 : Gl X "enumerate") (m1 : X.mg "enumerate" = none) (ha : PA X [e] ta) (one : starEach [e] X.env = [(false, eval e X.env)] := by rfl) :
    PI X (.Tuple elts kk tpos) (.Call (.Name "enumerate" p) [e] [] pos) (iEnum2 X.K ta) := by
  constructor
  intro pins s σ H R I h
  refine Call_ (ld_blt I g1 m1 boot_enumerate (callWith_type1 (thn (ha.run pos pins s σ H _ I h) ?_) one rfl))
  rintro us s1 ⟨vs, H1, I1, r1, a, rfl, (⟨⟨xs, hq⟩, q⟩ | ⟨⟨xs, hq⟩, q⟩)⟩
  · cases r1 with
    | cons r rr =>
      cases rr
      cases r
      obtain ⟨its, rv, p', hz⟩ := I1.list hq
      refine call_enumerate_list p'.isList fun h' he hit hsz hk => wpAny_pyIter_enum he ?_
      have I2 : Inv X pins σ H1 { s1 with heap := h' } := I1.kept (t' := s1.toks) hk
      refine ⟨s1.heap.objs.size + 1, [s1.heap.objs.size + 1, s1.heap.objs.size], _, _, H1, rfl, I2, turn_enum a (s1.heap.objs.size + 1) s1.heap.objs.size, ⟨⟨.none, he⟩, hit, Nat.succ_ne_self _⟩, fun b hb => ?_, q⟩
      have cs : b = s1.heap.objs.size + 1 ∨ b = s1.heap.objs.size := by simpa using hb
      have hle : s1.heap.objs.size ≤ b := by
        rcases cs with z | z
        · rw [z]
          exact Nat.le_succ _
        · rw [z]
          exact Nat.le_refl _
      exact I1.fpOk hle (I1.hok.fresh hle)
  · cases r1 with
    | cons r rr =>
      cases rr
      cases r
      obtain ⟨its, rv, ht, hz⟩ := I1.tuple hq
      have ht' : s1.heap.IsTuple a its.toArray := ht
      have al : a < s1.heap.objs.size := by obtain ⟨_, e, _⟩ := ht'; exact Heap.lt_size e
      refine enum_call ht' fun h' he hit kept => wpAny_pyIter_enum he ?_
      have I2 : Inv X pins σ H1 { s1 with heap := h' } := I1.kept (t' := s1.toks) kept
      refine ⟨s1.heap.objs.size + 1, [s1.heap.objs.size + 1, s1.heap.objs.size], _, _, H1, rfl, I2, turn_enumT a (s1.heap.objs.size + 1) s1.heap.objs.size, ⟨⟨.none, he⟩, hit, Nat.succ_ne_self _, Nat.ne_of_lt al, Nat.ne_of_lt (Nat.lt_succ_of_lt al)⟩, fun b hb => ?_, q⟩
      have cs : b = s1.heap.objs.size + 1 ∨ b = s1.heap.objs.size := by simpa using hb
      have hle : s1.heap.objs.size ≤ b := by
        rcases cs with z | z
        · rw [z]
          exact Nat.le_succ _
        · rw [z]
          exact Nat.le_refl _
      exact I1.fpOk hle (I1.hok.fresh hle)
end SL
namespace DL
open PySem PySem.Spec PyProof.Rows L2 LamX PySem.W SL RZ
def enumD (xs : List D) : List D := xs.zipIdx.map fun p => D.tuk [.int (p.2 : Nat), p.1]
theorem enumD_get {xs : List D} {i : Nat} {d : D} (h : (enumD xs)[i]? = some d) : ∃ x, xs[i]? = some x ∧ d = .tuk [.int (i : Nat), x] := by
  unfold enumD at h
  rw [List.getElem?_map, List.getElem?_zipIdx] at h
  cases q : xs[i]? with
  | none => rw [q] at h; cases h
  | some x => rw [q] at h; cases h; exact ⟨x, rfl, by rw [Nat.zero_add]⟩
theorem enumD_length (xs : List D) : (enumD xs).length = xs.length := by unfold enumD; rw [List.length_map, List.length_zipIdx]
theorem okS_src {I J : DIt} {st : DSt} (e : I.src = J.src) (h : okS I st) : okS J st := by
  unfold okS at h ⊢
  rw [← e]
  exact h
section
variable {T : List (Addr × Str)} {K : Frag} {M : Pl} {H : Hp} {st : DSt} {I : DIt} {a : Addr}
theorem IsL.enum (h : IsL T K M H I a) : ItOk T K M H (Ite K a) ⟨enumD I.items, I.src⟩ := by
  refine ⟨fun M' H' st' l s ok i d e => ?_, fun M' H' st' l s ok => ?_⟩
  · obtain ⟨xs, r, q⟩ := h M' H' st' l s (okS_src rfl ok)
    obtain ⟨x, e1, rfl⟩ := enumD_get e
    obtain ⟨v, e2, rv⟩ := r.get e1
    refine ⟨⟨xs, v, q, e2⟩, fun y H'' z => ?_⟩
    obtain ⟨p, w, rfl, np, rfl, z⟩ := z
    have zz := z xs q
    rw [e2] at zz
    cases zz
    have g : Grow M' H' M' (upd H' p (.tup [.int (i : Nat), v])) := Grow.new s.hid np
    exact ⟨g, s.new np, .tuk (s.notin np) upd_same (.cons (.int _) (.cons (rv.grow g) .nil))⟩
  · obtain ⟨xs, r, q⟩ := h M' H' st' l s (okS_src rfl ok)
    exact ⟨xs, q, by rw [enumD_length, r.length]; exact Nat.le_refl _⟩
theorem IsT.enum (h : IsT T K M H I a) : ItOk T K M H (IteT K a) ⟨enumD I.items, I.src⟩ := by
  refine ⟨fun M' H' st' l s ok i d e => ?_, fun M' H' st' l s ok => ?_⟩
  · obtain ⟨xs, r, q⟩ := h M' H' st' l s (okS_src rfl ok)
    obtain ⟨x, e1, rfl⟩ := enumD_get e
    obtain ⟨v, e2, rv⟩ := r.get e1
    refine ⟨⟨xs, v, q, e2⟩, fun y H'' z => ?_⟩
    obtain ⟨p, w, rfl, np, rfl, z⟩ := z
    have zz := z xs q
    rw [e2] at zz
    cases zz
    have g : Grow M' H' M' (upd H' p (.tup [.int (i : Nat), v])) := Grow.new s.hid np
    exact ⟨g, s.new np, .tuk (s.notin np) upd_same (.cons (.int _) (.cons (rv.grow g) .nil))⟩
  · obtain ⟨xs, r, q⟩ := h M' H' st' l s (okS_src rfl ok)
    exact ⟨xs, q, by rw [enumD_length, r.length]⟩
end
def itL (st : DSt) : D → Option DIt
  | .lst ds => some ⟨ds, none⟩
  | .scr ds => some ⟨ds, none⟩
  | .ref n => match st[n]? with | some (.lst ds) => some ⟨ds, some (n, ds)⟩ | _ => none
  | _ => none
def itT : D → Option DIt
  | .tup ds => some ⟨ds, none⟩
  | .tuk ds => some ⟨ds, none⟩
  | _ => none
section
variable {T : List (Addr × Str)} {K : Frag} {M : Pl} {H : Hp} {st : DSt}
theorem itL.is {d : D} {v : V} {I : DIt} (s : RS T K M st H) (r : RV K M H d v) (e : itL st d = some I) : ∃ a, v = .ref a ∧ IsL T K M H I a ∧ okS I st := by
  cases r with
  | lst n h rs => cases e; exact ⟨_, rfl, fun M' H' st' l s ok => ⟨_, rs.later l, .inl (Rd.later l n (.inl h))⟩, .inl rfl⟩
  | scr n h rs => cases e; exact ⟨_, rfl, fun M' H' st' l s ok => ⟨_, rs.later l, .inl (Rd.later l n h)⟩, .inl rfl⟩
  | lsk h rs => cases e; exact ⟨_, rfl, fun M' H' st' l s ok => ⟨_, rs.later l, h H'⟩, .inl rfl⟩
  | ref h =>
    obtain ⟨o, e1, ro⟩ := s.atM h
    unfold itL at e
    simp only [e1] at e
    cases o with
    | lst xs =>
      cases e
      refine ⟨_, rfl, fun M' H' st' l s ok => ?_, .inr ⟨_, _, rfl, e1⟩⟩
      rcases ok with z | ⟨n', ys, z, q⟩
      · cases z
      · cases z
        obtain ⟨xs, e1, e2⟩ := s.obj _ _ _ (l.get _ _ h) q
        exact ⟨xs, e2, .inl (.inl e1)⟩
    | dK _ => cases e
    | dT _ => cases e
  | _ => cases e
theorem itT.is {d : D} {v : V} {I : DIt} (r : RV K M H d v) (e : itT d = some I) : ∃ a, v = .ref a ∧ IsT T K M H I a ∧ I.src = none := by
  cases r with
  | tup n h q rs => cases e; exact ⟨_, rfl, fun M' H' st' l s ok => ⟨_, rs.later l, .inl (.inr ⟨_, l.keep _ _ n h (fun ps z => by cases z)⟩)⟩, rfl⟩
  | tuk n h rs => cases e; exact ⟨_, rfl, fun M' H' st' l s ok => ⟨_, rs.later l, .inl (.inl (l.keep _ _ n h (fun ps z => by cases z)))⟩, rfl⟩
  | _ => cases e
end
def wEnum (fs : DTA) : DTI := fun r st R => fs r st fun ds st1 => on1 ds fun x => onO (itOf st1 x) fun I => R ⟨enumD I.items, I.src⟩ st1
def zipD (xs ys : List D) : List D := (xs.zip ys).map fun p => D.tuk [p.1, p.2]
def wZip (fs : DTA) : DTI := fun r st R => fs r st fun ds st1 => on2 ds fun x y => onO (itT x) fun I => onO (itT y) fun J => R ⟨zipD I.items J.items, none⟩ st1
section
variable {T : List (Addr × Str)} {X : Cx} {e e2 : Expr} {fs : DTA} {p pos tpos : Pos} {elts : List Expr} {kk : Nat}
theorem di_enum (hg : Gl X "enumerate") (hm : X.mg "enumerate" = none) (ha : DA T X [e] fs) (hs : starEach [e] X.env = [(false, eval e X.env)] := by rfl) : DI T X (.Tuple elts kk tpos) (.Call (.Name "enumerate" p) [e] [] pos) (wEnum fs) :=
  PI.imp (pi_enum2 hg hm ha hs) fun σ H R ⟨M, r, st, R', s, re, h, k⟩ => ⟨M, r, st, _, s, re, h, fun M1 H1 st1 ds vs g1 s1 r1 q => by
    obtain ⟨x, rfl, q1⟩ := on1.of q
    obtain ⟨I, e, q2⟩ := onO.of q1
    obtain ⟨v, rfl, rv⟩ := r1.one
    obtain ⟨a, rfl, src, ok⟩ := itOf.src s1 rv e
    rcases src.lt (T := T) with l | l
    · obtain ⟨xs, _, sq⟩ := l M1 H1 st1 (Later.refl _ _) s1 ok
      exact ⟨a, rfl, .inl ⟨⟨xs, sq⟩, k M1 H1 st1 _ _ g1 s1 q2 l.enum⟩⟩
    · obtain ⟨xs, _, sq⟩ := l M1 H1 st1 (Later.refl _ _) s1 ok
      exact ⟨a, rfl, .inr ⟨⟨xs, sq⟩, k M1 H1 st1 _ _ g1 s1 q2 l.enum⟩⟩⟩
end
end DL
namespace DL
open PySem PySem.Spec PyProof.Rows L2 LamX PySem.W SL
def compI (I : DIt) (g : DTG) (tt : DTT) (te : DTE) (r : DEnv) (Nx : List D → DSt → Prop) : List D → List D → DSt → Prop
  | [], acc, st => okI I st (Nx acc st)
  | d :: ds, acc, st => okI I st (g d r st fun r2 st2 => tt r2 st2 fun b st3 => if b = true then te r2 st3 fun y st4 => acc.length < sizeLine ∧ compI I g tt te r Nx ds (acc ++ [y]) st4 else compI I g tt te r Nx ds acc st3)
def comp2 (I : DIt) (g : DTG) (tt : DTT) (f1 : DTI) (g1 : DTG) (tt1 : DTT) (te : DTE) (r : DEnv) (vs1 : List Nat) (Q : List D → DSt → Prop) : List D → List D → DSt → Prop
  | [], acc, st => okI I st (Q acc st)
  | d :: ds, acc, st => okI I st (g d r st fun r2 st2 => tt r2 st2 fun b st3 => if b = true then f1 r2 st3 fun I1 st4 => compI I1 g1 tt1 te (wipeD r2 vs1) (comp2 I g tt f1 g1 tt1 te r vs1 Q ds) I1.items acc st4 else comp2 I g tt f1 g1 tt1 te r vs1 Q ds acc st3)
def dLc2G (f : DTI) (g : DTG) (tt : DTT) (f1 : DTI) (g1 : DTG) (tt1 : DTT) (te : DTE) (vs vs1 : List Nat) (fin : (D → DSt → Prop) → List D → DSt → Prop) : DTE := fun r st Q => f r st fun I st1 => comp2 I g tt f1 g1 tt1 te (wipeD r vs) vs1 (fin Q) I.items [] st1
def Mk (T : List (Addr × Str)) (K : Frag) (M1 : Pl) (H1 : Hp) (p : Addr) (N : Pl) (acc : List D) (st : DSt) (H : Hp) : Prop := Grow M1 H1 N H ∧ RS T K (N.hide p) st H ∧ ∃ xs, H p = some (.lst xs) ∧ RVs K (N.hide p) H acc xs
theorem Mk.go {T : List (Addr × Str)} {K : Frag} {M1 N : Pl} {H1 H H2 : Hp} {st1 st st2 : DSt} {p : Addr} {acc : List D} {M2 : Pl} (m : Mk T K M1 H1 p N acc st H) (s1 : RS T K M1 st1 H1) (np : H1 p = none) (g : Grow (N.hide p) H M2 H2) (s2 : RS T K M2 st2 H2) :
    ∃ N2, M2 = N2.hide p ∧ Mk T K M1 H1 p N2 acc st2 H2 ∧ Later (N.hide p) H (N2.hide p) H2 := by
  obtain ⟨gr, s, xs, hp, rs⟩ := m
  obtain ⟨N2, rfl⟩ := grow_hide g
  have hp2 : H2 p = some (.lst xs) := (g.hid p hidden_at).trans hp
  refine ⟨N2, rfl, ⟨?_, s2, xs, hp2, rs.grow g⟩, g.later⟩
  have z := gr.step (o := .lst xs) s1 np g
  rw [upd_self hp2] at z
  exact z
theorem Mk.push {T : List (Addr × Str)} {K : Frag} {M1 N : Pl} {H1 H : Hp} {st1 st : DSt} {p : Addr} {acc : List D} {y : D} {v : V} (m : Mk T K M1 H1 p N acc st H) (s1 : RS T K M1 st1 H1) (np : H1 p = none) (rv : RV K (N.hide p) H y v) :
    ∃ xs, H p = some (.lst xs) ∧ xs.length = acc.length ∧ Mk T K M1 H1 p N (acc ++ [y]) st (upd H p (.lst (xs ++ [v]))) ∧ Later (N.hide p) H (N.hide p) (upd H p (.lst (xs ++ [v]))) := by
  obtain ⟨gr, s, xs, hp, rs⟩ := m
  obtain ⟨s2, l⟩ := s.push (ys := xs ++ [v]) hp
  exact ⟨xs, hp, rs.length.symm, ⟨gr.step s1 np (Grow.refl _ _), s2, xs ++ [v], upd_same, (rs.later l).append (.cons (rv.later l) .nil)⟩, l⟩
theorem drop_cons {α : Type} {l ds : List α} {d : α} {i : Nat} (e : l.drop i = d :: ds) : l[i]? = some d ∧ i < l.length ∧ l.drop (i + 1) = ds := by
  have z : (l.drop i)[0]? = some d := by rw [e]; rfl
  rw [List.getElem?_drop, Nat.add_zero] at z
  refine ⟨z, (List.getElem?_eq_some_iff.mp z).1, ?_⟩
  have z : (l.drop i).drop 1 = ds := by rw [e]; rfl
  rw [List.drop_drop] at z
  exact z
section
variable {T : List (Addr × Str)} {X : Cx} {elt tg iter tg1 iter1 : Expr} {ifs ifs1 : List Expr} {scope : Scope} {own : List (Str × Nat)} {vs1 : List Nat} {pos : Pos} {f f1 : DTI} {g g1 : DTG} {tt tt1 : DTT} {te : DTE}
end
end DL
namespace DL
open PySem PySem.Spec PyProof.Rows L2 LamX PySem.W SL
section
variable {P : Program} {w : World} {K : Frag} {mg : Str → Option Value} {base : Heap} {T : List (Addr × Str)}
theorem fnG_code {x qual : Str} {st : Stmt} {f : Addr} {fd : FuncData} {N ps : List Str} {k : Nat} {sp : Sp}
    (F : Fun K x qual st f fd) (sc : FnScope N ps (defScope st)) (size : ∀ vs H Q E, sp vs H Q E → vs.length = ps.length)
    (body : ∀ (A : Around) (outer : List Env) (s : Shared) (H : Hp) (vs : List V) (Q : VK) (E : XK),
      A.guards = some [] → Room k (A.deeper (envOfC qual (defScope st) s.heap.objs.size f fd.code)) → sp vs H Q E →
      ∃ t, PSs (cxOf CX0 P w K mg base N qual (defScope st) f fd.code A outer s H E).nox (defBody st) t ∧
        t { nx := fun _ H' => Q .non H', rt := Q } (start N vs) H) : FnG P w K mg base (k + 1) f fd ps sp := by
  obtain ⟨oc, od, kV, doc, pm, an, cdv, ct, osl, rfl, look, code⟩ := F.ex
  constructor
  · exact size
  · intro A outer s H args us vs Q E hgd room env bound rel prom
    have many := size _ _ _ _ prom
    have inK : K.In s.heap := env.mod.kin.keeps fun b o q => (env.bs b o q).1
    have free : s.heap.NoLimit := env.mod.nolimit.keeps fun b o q => (env.bs b o q).1
    refine codeAny_call_function room.depth (inK _ _ look) rfl sc.co sc.gen rfl (PySem.W.codeRec_of inK code)
      (bound _ _ _ _ ?_)
    refine wpAny_newFunctionEnv_cells sc.kind ?kinds fun env' same s1 fresh => ?_
    case kinds =>
      rintro ⟨n, v⟩ here
      rcases sc.par n (List.of_mem_zip here).1 with q | q
      · exact Or.inl q
      · exact Or.inr ⟨q, PySem.W.cellsFrom_some _ _ _ (Or.inl q)⟩
    subst same
    refine ⟨free.keeps fresh.toInCall.keep, codeAny_func ?_⟩
    obtain ⟨t, der, reading⟩ := body A outer s H vs Q E hgd (room.deeper _) prom
    have I := inv_start (CX := CX0) (E := E) sc room.hd env many rel fresh
    refine wpAny_mono (der.nox.run [] s1 (start N vs) H _ I reading) (fun fl s' e => ?_) fun _ _ e => e
    cases fl with
    | ret u => obtain ⟨v, σ', H', J, r', q⟩ := e; exact ⟨v, H', J.os, J.bare, J.base, J.hok, r', q⟩
    | next => obtain ⟨σ', H', J, q⟩ := e; exact ⟨.non, H', J.os, J.bare, J.base, J.hok, rfl, q⟩
    | brk => obtain ⟨_, _, _, q⟩ := e; exact False.elim q
    | cont => obtain ⟨_, _, _, q⟩ := e; exact False.elim q
theorem fnD_code {x qual : Str} {st : Stmt} {f : Addr} {fd : FuncData} {N ps : List Str} {k : Nat} {g : DRs} {F' : DTS} (F : Fun K x qual st f fd) (sc : FnScope N ps (defScope st)) (ar : ∀ ds st Q, g ds st Q → ds.length = ps.length)
    (body : ∀ (A : Around) (outer : List Env) (s : Shared) (H : Hp) (E : XK), A.guards = some [] → Room k (A.deeper (envOfC qual (defScope st) s.heap.objs.size f fd.code)) → DSs T (cxOf CX0 P w K mg base N qual (defScope st) f fd.code A outer s H E).nox (defBody st) F')
    (sem : ∀ ds st Q, g ds st Q → F' { nx := fun _ st' => Rt st Q .non st', rt := Rt st Q } (startD N.length ds) st) : FnD P w K mg base T (k + 1) f fd ps g := by
  refine ⟨fnG_code F sc (fun vs H Q E h => h.1) (fun A outer s H vs Q E gd room h => ⟨_, body A outer s H E gd room, ?_⟩), ar⟩
  obtain ⟨_, M, st', ds, Q', rs, rv, hg, kn⟩ := h
  refine ⟨M, startD N.length ds, st', _, rs, RE.start rv N, sem ds st' Q' hg, ?_⟩
  exact ⟨fun M1 H1 σ1 r1 st1 g1 s1 re1 q => Rt.sound q rs kn g1 s1 .non, fun M1 H1 st1 d v g1 s1 r1 q => Rt.sound q rs kn g1 s1 r1, fun _ _ _ _ _ _ _ _ q => q.elim, fun _ _ _ _ _ _ _ _ q => q.elim⟩
theorem _root_.L2.Fun.bindsK {x qual : Str} {st : Stmt} {f : Addr} {fd : FuncData} {s : Shared} {args : Args} {bs : List (Str × Value)} (F : Fun K x qual st f fd)
    (h : ∀ (kV doc pm : Value) (an : Option Addr) (cdv ct : Value), bindArgs (PySem.W.fnOf x qual (defArgs st) (defBody st) (defScope st) .none kV doc pm an cdv ct) args = pure bs) : BindsTo s fd args bs := by
  obtain ⟨oc, od, kV, doc, pm, an, cdv, ct, osl, rfl, lk, hcd⟩ := F.ex
  exact .of_eq (h kV doc pm an cdv ct)
theorem _root_.L2.Fun.one {x qual x' qual' : Str} {st st' : Stmt} {f : Addr} {fd fd' : FuncData} (F : Fun K x qual st f fd) (G : Fun K x' qual' st' f fd') : fd = fd' := by
  obtain ⟨_, _, _, _, _, _, _, _, _, _, l1, _⟩ := F.ex
  obtain ⟨_, _, _, _, _, _, _, _, _, _, l2, _⟩ := G.ex
  rw [l1] at l2
  cases l2
  rfl
def Scr (ns : List Int) (x : D) : Prop := x = .scr (ns.map D.int)
theorem Scr.seq {ns : List Int} {x : D} (h : Scr ns x) (st : DSt) : seqS st x = some (ns.map D.int) := by rw [show x = _ from h]; rfl
theorem law_start {cs : List (Addr × Addr)} {H : Hp} {a : Addr} {ns : List Int} {g : DRs} (hT : ∀ p ∈ T, ∃ q ∈ cs, q.2 = p.1) (em : ∀ p ∈ cs, H p.2 = some (.tbl #[])) (hS : SqL K H a (ns.map V.int)) (h : ∀ x, Scr ns x → g [x] [] fun d _ => d = .bl true) :
    spD T K 1 g [.ref a] H (fun v _ => v = .bl true) E0 := by
  obtain ⟨x, hx, rx⟩ : ∃ x, Scr ns x ∧ RV K ⟨0, []⟩ H x (.ref a) := by
    rcases hS with hS | hS
    · exact ⟨_, rfl, .scr (by simp) hS (RVs.of_ints ns)⟩
    · exact ⟨_, rfl, .lsk (fun G => .inr hS) (RVs.of_ints ns)⟩
  refine ⟨rfl, ⟨0, []⟩, [], [x], _, ⟨rfl, List.nodup_nil, fun n a o e => by simp [Pl.at_] at e, fun p hp => ?_, fun a ha => by simp at ha⟩, .cons rx .nil, h x hx, fun M' H' st' d v g s r q => ?_⟩
  · obtain ⟨q, hq, e⟩ := hT p hp
    have z := TabS.nil (q := p.2) (em q hq)
    rw [e] at z
    exact z
  · subst q
    cases r
    rfl
end
end DL
namespace DL
open PySem PySem.Spec PyProof.Rows L2 LamX PySem.W SL
section
variable {T : List (Addr × Str)} {X : Cx} {a b c e : Expr} {es : List Expr} {fa fb fc f : DTE} {fs : DTA} {pos p : Pos} {K : Frag}
def dIsB : DR2 := fun x y st Q => onB x fun a => onB y fun b => Q (.bl (decide (a = b))) st
def dNotB : DR2 := fun x y st Q => onB x fun a => onB y fun b => Q (.bl (!decide (a = b))) st
def truD (st : DSt) : D → Option Bool
  | .bl b => some b
  | .non => some false
  | .int i => some (i != 0)
  | .tup xs => some (!xs.isEmpty)
  | .tuk xs => some (!xs.isEmpty)
  | .lst xs => some (!xs.isEmpty)
  | .scr xs => some (!xs.isEmpty)
  | .ref n => match st[n]? with | some (.lst xs) => some (!xs.isEmpty) | some (.dK kvs) => some (!kvs.isEmpty) | _ => none
  | _ => none
def dTruth (f : DTE) : DTT := fun r st Q => f r st fun x st1 => onO (truD st1 x) fun c => Q c st1
end
end DL
namespace DL
open PySem PySem.Spec PyProof.Rows L2 LamX PySem.W SL
section
variable {prog : Program} {w : World} {A : Around} {E : Value → Shared → Prop} {s : Shared} {l : Addr} {its : List Value} {ns : List Int} {Q : Value → Shared → Prop}
end
section
variable {X : Cx} {T : List (Addr × Str)} {K : Frag}
def onNs (st : DSt) (x : D) (k : List Int → Prop) : Prop := onO (seqS st x) fun xs => onO (intsD xs) k
theorem onNs.of {st : DSt} {x : D} {k : List Int → Prop} (h : onNs st x k) : ∃ ns, seqS st x = some (ns.map D.int) ∧ k ns := by
  obtain ⟨xs, e, h⟩ := onO.of h
  obtain ⟨ns, e2, h⟩ := onO.of h
  exact ⟨ns, by rw [e, intsD_of e2], h⟩
def dSum : DRs := fun ds st Q => on1 ds fun x => onNs st x fun ns => Q (.int ns.sum) st
def dMaxL : DRs := fun ds st Q => on1 ds fun x => onNs st x fun ns => 0 < ns.length ∧ ∀ m, m ∈ ns → (∀ y, y ∈ ns → y ≤ m) → Q (.int m) st
def dMinL : DRs := fun ds st Q => on1 ds fun x => onNs st x fun ns => 0 < ns.length ∧ ∀ m, m ∈ ns → (∀ y, y ∈ ns → m ≤ y) → Q (.int m) st
def dInt : DRs := fun ds st Q => on1 ds fun x => match x with
  | .int i => Q (.int i) st
  | .bl b => Q (.int (if b then 1 else 0)) st
  | _ => False
theorem callD_int : CallD T K (fun xs H Q => (∃ i, xs = [.int i] ∧ Q (.int i) H) ∨ ∃ k, xs = [.bl k] ∧ Q (.int (if k then 1 else 0)) H) dInt := by
  intro M H st ds vs Q' Q s r h k
  obtain ⟨x, rfl, h⟩ := on1.of h
  obtain ⟨v, rfl, rv⟩ := r.one
  cases x with
  | int i => cases rv; exact .inl ⟨i, rfl, k.here s (.int _) h⟩
  | bl b => cases rv; exact .inr ⟨b, rfl, k.here s (.int _) h⟩
  | _ => exact h.elim
end
end DL
namespace DL
open PySem PySem.Spec PyProof.Rows L2 LamX PySem.W SL
section
variable {X : Cx} {T : List (Addr × Str)} {K : Frag}
def dMaxDef (fs : DTE) (fd : DTE) : DTE := fun r st Q => fs r st fun x st1 => fd r st1 fun d st2 => onNs st2 x fun ns => (ns = [] → Q d st2) ∧ ∀ m, m ∈ ns → (∀ y, y ∈ ns → y ≤ m) → Q (.int m) st2
end
end DL
namespace DL
open PySem PySem.Spec PyProof.Rows L2 LamX PySem.W SL
end DL
namespace DL
open PySem PySem.Spec PyProof.Rows L2 LamX PySem.W SL
def keyD : D → Option Key
  | .int i => some (.inl i)
  | .str x => some (.inr x)
  | _ => none
theorem RV.key {K : Frag} {M : Pl} {H : Hp} {d : D} {v : V} {k : Key} (r : RV K M H d v) (h : keyD d = some k) : v = kV k := by
  cases r <;> first | (cases h; rfl) | cases h
def valD {κ : Type} [DecidableEq κ] (kvs : List (κ × D)) (k : κ) : Option D := (kvs.find? fun kv => decide (kv.1 = k)).map (·.2)
def putD {κ : Type} [DecidableEq κ] (kvs : List (κ × D)) (k : κ) (v : D) : List (κ × D) :=
  if (kvs.any fun kv => decide (kv.1 = k)) = true then kvs.map (fun kv => if kv.1 = k then (kv.1, v) else kv) else kvs ++ [(k, v)]
structure KVs {κ : Type} (K : Frag) (M : Pl) (H : Hp) (kvs : List (κ × D)) (ys : List (κ × V)) : Prop where
  ks : kvs.map (·.1) = ys.map (·.1)
  vs : RVs K M H (kvs.map (·.2)) (ys.map (·.2))
section
variable {κ : Type} [DecidableEq κ] {K : Frag} {M : Pl} {H : Hp}
theorem KVs.nil : KVs K M H ([] : List (κ × D)) [] := ⟨rfl, .nil⟩
theorem KVs.cons {k : κ} {d : D} {v : V} {kvs : List (κ × D)} {ys : List (κ × V)} (h : RV K M H d v) (t : KVs K M H kvs ys) : KVs K M H ((k, d) :: kvs) ((k, v) :: ys) := ⟨by rw [List.map_cons, List.map_cons, t.ks], .cons h t.vs⟩
theorem KVs.un {k : κ} {d : D} {kvs : List (κ × D)} {ys : List (κ × V)} (h : KVs K M H ((k, d) :: kvs) ys) : ∃ v zs, ys = (k, v) :: zs ∧ RV K M H d v ∧ KVs K M H kvs zs := by
  obtain ⟨h1, h2⟩ := h
  cases ys with
  | nil => cases h1
  | cons y zs =>
    obtain ⟨k', v⟩ := y
    rw [List.map_cons, List.map_cons] at h1 h2
    cases h2 with
    | cons a b =>
      have e := List.cons.inj h1
      cases e.1
      exact ⟨v, zs, rfl, a, e.2, b⟩
theorem KVs.grow {M' : Pl} {H' : Hp} {kvs : List (κ × D)} {ys : List (κ × V)} (h : KVs K M H kvs ys) (g : Grow M H M' H') : KVs K M' H' kvs ys := ⟨h.ks, h.vs.grow g⟩
theorem KVs.length {kvs : List (κ × D)} {ys : List (κ × V)} (h : KVs K M H kvs ys) : kvs.length = ys.length := by
  have := congrArg List.length h.ks
  rw [List.length_map, List.length_map] at this
  exact this
theorem KVs.any {k : κ} : ∀ {kvs : List (κ × D)} {ys : List (κ × V)}, KVs K M H kvs ys → (kvs.any fun kv => decide (kv.1 = k)) = (ys.any fun kv => decide (kv.1 = k))
  | [], ys, h => by
    have : ys = [] := by cases ys with | nil => rfl | cons _ _ => cases h.ks
    subst this
    rfl
  | (k', d) :: kvs, ys, h => by
    obtain ⟨v, zs, rfl, rv, t⟩ := h.un
    rw [List.any_cons, List.any_cons, KVs.any t]
theorem KVs.app {k : κ} {d : D} {v : V} (h : RV K M H d v) : ∀ {kvs : List (κ × D)} {ys : List (κ × V)}, KVs K M H kvs ys → KVs K M H (kvs ++ [(k, d)]) (ys ++ [(k, v)])
  | [], ys, t => by
    have : ys = [] := by cases ys with | nil => rfl | cons _ _ => cases t.ks
    subst this
    exact .cons h .nil
  | (k', d') :: kvs, ys, t => by
    obtain ⟨v', zs, rfl, rv, t'⟩ := t.un
    exact .cons rv (KVs.app h t')
theorem KVs.upd {k : κ} {d : D} {v : V} (h : RV K M H d v) : ∀ {kvs : List (κ × D)} {ys : List (κ × V)}, KVs K M H kvs ys → KVs K M H (kvs.map fun kv => if kv.1 = k then (kv.1, d) else kv) (ys.map fun kv => if kv.1 = k then (kv.1, v) else kv)
  | [], ys, t => by
    have : ys = [] := by cases ys with | nil => rfl | cons _ _ => cases t.ks
    subst this
    exact .nil
  | (k', d') :: kvs, ys, t => by
    obtain ⟨v', zs, rfl, rv, t'⟩ := t.un
    rw [List.map_cons, List.map_cons]
    by_cases e : k' = k
    · rw [if_pos e, if_pos e]; exact .cons h (KVs.upd h t')
    · rw [if_neg e, if_neg e]; exact .cons rv (KVs.upd h t')
theorem KVs.put {k : κ} {d : D} {v : V} {kvs : List (κ × D)} {ys : List (κ × V)} (h : RV K M H d v) (t : KVs K M H kvs ys) : KVs K M H (putD kvs k d) (putK ys k v) := by
  unfold putD putK
  rw [t.any (k := k)]
  split
  · exact t.upd h
  · exact t.app h
end
def onDk (st : DSt) (x : D) (k : Nat → List (Key × D) → Prop) : Prop := match x with
  | .ref n => match st[n]? with | some (.dK kvs) => k n kvs | _ => False
  | _ => False
theorem onDk.of {st : DSt} {d : D} {k : Nat → List (Key × D) → Prop} (h : onDk st d k) : ∃ n kvs, d = .ref n ∧ st[n]? = some (.dK kvs) ∧ k n kvs := by
  cases d with
  | ref n =>
    unfold onDk at h
    simp only at h
    split at h
    · rename_i kvs e
      exact ⟨n, kvs, rfl, e, h⟩
    · exact h.elim
  | _ => exact h.elim
section
variable {T : List (Addr × Str)} {X : Cx} {K : Frag} {a b o i : Expr} {fa fb fo fi fv : DTE} {pos : Pos}
theorem onDk.rd {M : Pl} {H : Hp} {st : DSt} {n : Nat} {kvs : List (Key × D)} {v : V} (s : RS T K M st H) (r : RV K M H (.ref n) v) (e : st[n]? = some (.dK kvs)) : ∃ a ys, v = .ref a ∧ M.at_ n = some a ∧ H a = some (.dK ys) ∧ KVs K M H kvs ys := by
  cases r with
  | ref hm =>
    obtain ⟨ys, e1, e2, e3⟩ := s.obj n _ _ hm e
    exact ⟨_, ys, rfl, hm, e1, ⟨e2, e3⟩⟩
def dNewK : DTE := fun _ st Q => Q (.ref st.length) (st ++ [.dK []])
def dGetK : DR2 := fun x y st Q => onDk st x fun n kvs => onO (keyD y) fun k => onO (valD kvs k) fun d => Q d st
def dInK (neg : Bool) (fy fd : DTE) : DTE := fun r st Q => fy r st fun y st1 => fd r st1 fun x st2 => onDk st2 x fun n kvs => onO (keyD y) fun k => Q (.bl (if neg then !(valD kvs k).isSome else (valD kvs k).isSome)) st2
def sPutK (fd fy fv : DTE) : DTS := fun E r st => fv r st fun v st1 => fd r st1 fun x st2 => fy r st2 fun y st3 => onDk st3 x fun n kvs => onO (keyD y) fun k => kvs.length < sizeLine ∧ E.nx r (st3.set n (.dK (putD kvs k v)))
def dLenK : DRs := fun ds st Q => on1 ds fun x => onDk st x fun n kvs => Q (.int kvs.length) st
end
end DL
namespace DL
open PySem PySem.Spec PyProof.Rows L2 LamX PySem.W SL
section
variable {T : List (Addr × Str)} {X : Cx} {K : Frag} {a b o i : Expr} {fa fb fo fi fv : DTE} {pos : Pos}
def sAug (i : Nat) (g : Int → Int → Int) (f : DTE) : DTS := fun E r st => onOO r[i]? fun x => f r st fun y st1 => onI x fun m => onI y fun n => E.nx (r.set i (some (.int (g m n)))) st1
def on3 (ds : List D) (k : D → D → D → Prop) : Prop := match ds with | [x, y, z] => k x y z | _ => False
theorem on3.of {ds : List D} {k : D → D → D → Prop} (h : on3 ds k) : ∃ x y z, ds = [x, y, z] ∧ k x y z := by
  match ds, h with
  | [x, y, z], h => exact ⟨x, y, z, rfl, h⟩
  | [], h => exact h.elim
  | [_], h => exact h.elim
  | [_, _], h => exact h.elim
  | _ :: _ :: _ :: _ :: _, h => exact h.elim
def sPar3 (i j l : Nat) (f : DTA) : DTS := fun E r st => f r st fun ds st1 => on3 ds fun d e g => E.nx (((r.set i (some d)).set j (some e)).set l (some g)) st1
theorem ds_par3 {i j l : Nat} {x y z : Str} {a b c : Expr} {f : DTA} {px py pz pt : Pos} {kt k2 pt2} (hc : X.calm = true) (hN : X.N.Nodup) (hi : X.N[i]? = some x) (hj : X.N[j]? = some y) (hl : X.N[l]? = some z) (hij : i ≠ j) (hil : i ≠ l) (hjl : j ≠ l)
    (hx : X.env.scope.names.lookup x = some .local) (hy : X.env.scope.names.lookup y = some .local) (hz : X.env.scope.names.lookup z = some .local) (ha : DA T X [a, b, c] f)
    (hw : swappedStores [.Tuple [.Name x px, .Name y py, .Name z pz] kt pt] (.Tuple [a, b, c] k2 pt2) X.env = pure (some [x, y, z]))
    (hs : swapsWithSole [.Tuple [.Name x px, .Name y py, .Name z pz] kt pt] (.Tuple [a, b, c] k2 pt2) pos.line X.env = pure false := by rfl) :
    DSt1 T X (.Assign [.Tuple [.Name x px, .Name y py, .Name z pz] kt pt] (.Tuple [a, b, c] k2 pt2) pos) (sPar3 i j l f) :=
  PS.imp (ps_par3 hc hN hi hj hl hij hil hjl hx hy hz ha hw hs) fun E σ H ⟨M, r, st, E', s, re, h, k⟩ => ⟨M, r, st, _, s, re, h, fun M1 H1 st1 ds vs g1 s1 r1 q => by
    obtain ⟨d, e, g, rfl, q⟩ := on3.of q
    cases r1 with
    | cons r1 r2 =>
      obtain ⟨v, w, rfl, rv, rw'⟩ := r2.two
      exact ⟨_, v, w, rfl, k.nx M1 H1 _ _ st1 g1 s1 ((((re.grow g1).set i r1).set j rv).set l rw') q⟩⟩
end
end DL
namespace SL
open PySem PySem.Spec PyProof.Rows L2 LamX PySem.W PySem.Calls
section
variable {P : Program} {w : World} {A : Around} {E : Value → Shared → Prop} {s : Shared} {a fa : Addr} {Q : Value → Shared → Prop} {kz : List PyData} {its : List Value} {o : Obj} {n : Nat} {T : String}
theorem sorted_madeS (hT : T = "list" ∨ T = "tuple") (ho : s.heap.get? a = some o) (hc : o.cls = .type T) (hd : o.data = .seq its.toArray n) (few : its.length ≤ sizeLine) (al : AllAlike kz) (so : Sortable kz) (un : ∀ d, d ∈ kz → A.units + 2 + d.depth < cLine)
    (go : ∀ g : Heap, (∀ c ob, s.heap.get? c = some ob → g.get? c = some ob) →
      ∃ Z : Addr → List Value → Shared → Prop, KeySt P w A.in1.in1 { s with heap := g.push (seqObj "list" its.toArray 0) } g.objs.size (.ref fa) its kz Z ∧
        ∀ (y : Addr) (ks : List Value) (s1 : Shared) (h : Heap) (out : List Value) (tk2 c : Nat), Z y ks s1 → But2 g.objs.size y s1.heap h → h.get? g.objs.size = some (seqObj "list" out.toArray c) → KeyedOut false kz its out → Q (.ref g.objs.size) { s1 with heap := h, toks := tk2 }) :
    wpAny (model P w) A (call (.builtin "sorted") [.ref a] [(Str.ofString "key", .ref fa)]) Q E s := by
  refine call_function_entry_kw kind_sorted plain_sorted entry_sorted (ksk_s1 _ _) ?_
  unfold Builtin.«sorted»
  refine wpAny_bind (m := checkCount "sorted" 1 1 _) (wpAny_pure ?_)
  refine wpAny_bind (wpAny_collect_seq a hT ho hc hd (fun g keep => ?_) (by simpa using few))
  obtain ⟨Z, T, fin⟩ := go g keep
  refine wpAny_bind (wpAny_newList ?_ (by simpa using few))
  have at_ : (g.push (seqObj "list" its.toArray 0)).get? g.objs.size = some (seqObj "list" its.toArray 0) := Heap.get?_push_size _ rfl
  refine wpAny_bind (wpAny_holding (wpAny_call_entry_kw slot_list_sort ⟨_, at_, rfl⟩ entry_list_sort ?_ (ksk_l1 _ _)))
  rw [ksk_t1]
  exact sort_made T at_ few al so (fun d hd => un d hd) fun y ks s1 h out tk2 c z bt ha ko => ⟨_, rfl, wpAny_pure ⟨_, rfl, fin y ks s1 h out tk2 c z bt ha ko⟩⟩
end
theorem vals_eachN {ns : List Int} : ∀ {vs : List Value} {js : List Nat}, EachIs (fun (v : Value) (i : Nat) => ∃ t, v = .int (ns.getD i 0) t) vs js → Vals (js.map fun i : Nat => V.int (ns.getD i 0)) vs
  | _, _, .nil => .nil
  | _, _, .cons ⟨t, e⟩ r => .cons ⟨t, e⟩ (vals_eachN r)
theorem sq_ext {K : PySem.W.Frag} {H H' : Hp} {a : Addr} {xs : List V} (h : SqL K H a xs ∨ SqT K H a xs) (e : ExtN H H') : SqL K H' a xs ∨ SqT K H' a xs := by
  rcases h with h | h
  · rcases h with (h | ⟨o, h⟩) | h
    · exact .inl (.inl (.inl (e _ _ h fun ps z => by cases z)))
    · exact .inl (.inl (.inr ⟨o, e _ _ h fun ps z => by cases z⟩))
    · exact .inl (.inr h)
  · rcases h with (h | ⟨o, h⟩) | h
    · exact .inr (.inl (.inl (e _ _ h fun ps z => by cases z)))
    · exact .inr (.inl (.inr ⟨o, e _ _ h fun ps z => by cases z⟩))
    · exact .inr (.inr h)
theorem sq_items {X : Cx} {pins : List (Addr × Obj)} {s : Shared} {σ : L2.St} {H : Hp} {a : Addr} {xs : List V} (I : Inv X pins σ H s) (h : SqL X.K H a xs ∨ SqT X.K H a xs) : ∃ (its : List Value) (T : String) (o : Obj) (n : Nat), Vals xs its ∧ (T = "list" ∨ T = "tuple") ∧ s.heap.get? a = some o ∧ o.cls = .type T ∧ o.data = .seq its.toArray n ∧ its.length ≤ sizeLine := by
  rcases h with h | h
  · obtain ⟨its, rv, hl, hz⟩ := I.list h
    obtain ⟨o, n, e, c, _, d⟩ := hl
    exact ⟨its, "list", o, n, rv, .inl rfl, e, c, d, by rw [← rv.length]; exact hz⟩
  · obtain ⟨its, rv, ht, hz⟩ := I.tuple h
    obtain ⟨o, e, c, n, d⟩ := id ht
    exact ⟨its, "tuple", o, n, rv, .inr rfl, e, c, d, by rw [← rv.length]; exact hz⟩
def rSK (K : PySem.W.Frag) (T : List (Addr × Str)) (tb : TE) (σ : L2.St) (Q : VK) : V → Hp → Prop := fun v H1 => ∃ (a : Addr) (ns : List Int), v = .ref a ∧ (SqL K H1 a (ns.map V.int) ∨ SqT K H1 a (ns.map V.int)) ∧ ns.length ≤ 1000 ∧ Tabs T H1 ∧ ∀ H2 : Hp, ExtN H1 H2 → Tabs T H2 →
  ∃ k : Nat → PyData, AllAlike ((List.range ns.length).map k) ∧ Sortable ((List.range ns.length).map k) ∧ (∀ i : Nat, (k i).depth ≤ 20) ∧ (∀ (i : Nat) (n : Int) (H3 : Hp), ns[i]? = some n → Same H2 H3 → tb (σ ++ [some (.int n)]) H3 fun z H4 => Same H3 H4 ∧ KeyV H4 z (k i)) ∧
    ∀ (H3 : Hp) (p : Addr), Same H2 H3 → H3 p = none → Q (.ref p) (upd H3 p (.lst (((List.range ns.length).mergeSort (dataLe false k)).map fun i : Nat => V.int (ns.getD i 0))))
def tSortKeyS (K : PySem.W.Frag) (T : List (Addr × Str)) (ta tb : TE) : TE := fun σ H Q => ta σ H (rSK K T tb σ Q)
theorem pe_sortKeyS {X : Cx} {T : List (Addr × Str)} {e body : Expr} {ta tb : TE} {x : Str} {params : Arguments} {scope : Scope} {k : Nat} {c Pt : Addr} {p1 p4 p5 pos : Pos} (calm : X.calm = true) (g1 : Gl X "sorted") (m1 : X.mg "sorted" = none)
    (ha : PE X e ta) (TB : TabB X.base X.mg c Pt) (hcode : X.env.code = .ref c) (hT : (Pt, X.env.qual ++ "<lambda>") ∈ T) (hu : ∀ p ∈ T, p.1 = Pt → p.2 = X.env.qual ++ "<lambda>") (room : Room (k + 3) X.A) (L : LamP X.env.scope scope x) (nx : x ∉ X.N) (hdef : defaultsOf params X.env = ([], []))
    (hbind : ∀ (q : Str) (cl : List (Str × Addr)) (pm cv ctv u : Value), bindArgs (kla_fn "<lambda>" q params body scope cl pm cv ctv) ⟨[u], []⟩ = pure [(x, u)])
    (hbody : ∀ (A : Around) (s : Shared) (H : Hp) (f c' : Addr), Room k (A.deeper (lamEnv X scope s.heap.objs.size f c')) → PE (cxP X A s H scope x f c') body tb)
    (na : starEach [e] X.env = (false, eval e X.env) :: starEach [] X.env := by rfl)
    (he : backTo pos (starEach [e] X.env) = (false, eval e X.env) :: backTo pos (starEach [] X.env) := by rfl) (hpl : (backTo pos (starEach [e] X.env)).any (·.1) = false := by rfl) :
    PE X (.Call (.Name "sorted" p1) [e] [⟨some "key", .Lambda params body scope p4, p5⟩] pos) (tSortKeyS X.K T ta tb) := by
  refine ⟨fun pins s σ H Q I h => ?_⟩
  refine wpAny_Call_Name_kw (ld_blt (u := .builtin "sorted") I g1 m1 (by decide +kernel) ?_)
  refine callWith_kw ?_ he hpl
  refine thn ((pa_cons ha pa_nil na).run pos pins s σ H (fun vs H1 => match vs with | [v] => rSK X.K T tb σ Q v H1 | _ => False) I h) fun us s1 h1 => ?_
  obtain ⟨vs1, H1, I1, r1, q1⟩ := h1
  match vs1, r1, q1 with
  | [v1], r1, q1 =>
  obtain ⟨a, ns, rfl, sq, few, tabs, q⟩ := q1
  have e1 := Vals.ref1 r1
  subst e1
  show wpAny _ _ (evalAll ((do let v ← eval (.Lambda params body scope p4) X.env; standAt pos; pure v) :: [])) _ _ _
  refine wpAny_evalAll_cons (wpAny_bind (lam_make2 I1 TB hcode hT hu tabs hdef (L.has I.ok) fun f c' pm ctv H2 s2 I2 ext tabs2 hf hfn hfr hco => wpAny_bind (wpAny_standAt (wpAny_pure (wpAny_evalAll_nil ?_)))))
  have I3 : Inv X pins σ H2 s2 := I2
  obtain ⟨kk, al, so, dep, bodies, q⟩ := q H2 ext tabs2
  obtain ⟨vs, TT, ob, nn, rvs, hTT, hob, hcl, hdat, fewS⟩ := sq_items I3 (sq_ext sq ext)
  have len : vs.length = ns.length := by rw [← rvs.length, List.length_map]
  have items : ∀ (i : Nat) (x : Value), vs[i]? = some x → ∃ (n : Int) (t : Tok), ns[i]? = some n ∧ x = .int n t := fun i x hx => by
    have li := (List.getElem?_eq_some_iff.mp hx).1
    obtain ⟨u, hu2, ru⟩ := rvs.get (i := i) (x := .int (ns[i]'(by omega))) (by rw [List.getElem?_map, List.getElem?_eq_getElem (by omega)]; rfl)
    rw [hx] at hu2
    cases hu2
    obtain ⟨t, e⟩ := ru
    exact ⟨_, t, List.getElem?_eq_getElem (by omega), e⟩
  show wpAny _ _ (call (.builtin "sorted") [.ref a] [(Str.ofString "key", .ref f)]) _ _ _
  refine sorted_madeS (kz := (List.range ns.length).map kk) hTT hob hcl hdat fewS al so (fun d hd => ?_) (fun g keep => ?_)
  · obtain ⟨i, _, rfl⟩ := List.mem_map.mp hd
    have := dep i
    have := room.un
    omega
  have I0 : Inv X pins σ H2 { s2 with heap := g } := I3.kept (t' := s2.toks) keep
  have fg := keep _ _ hf
  have lf : f < g.objs.size := Heap.lt_size fg
  refine ⟨fun y ks s3 => (g.objs.size ≤ y ∧ y ≠ g.objs.size) ∧ ∃ H3 : Hp, Inv X pins σ H3 s3 ∧ Same H2 H3 ∧ H3 g.objs.size = none ∧ H3 y = none ∧ H3 f = none ∧ s3.heap.get? f = some (kla_obj "<lambda>" (X.env.qual ++ "<lambda>") params body scope (cloFrom X.env.cells scope.names []) pm c' ctv) ∧
      ∃ zs : List V, Vals zs ks ∧ ∀ (i : Nat) (z : V), zs[i]? = some z → KeyV H3 z (kk i), ⟨?_, ?_, ?_, ?_⟩, ?_⟩
  · intro y g2 ly ny kp
    have ly' : g.objs.size ≤ y := Nat.le_of_succ_le (by rw [size_push'] at ly; exact ly)
    have kp2 : ∀ b o, g.get? b = some o → g2.get? b = some o := fun b o e => kp b o (Nat.ne_of_lt (Heap.lt_size e)) (Heap.get?_push_of_some _ e)
    exact ⟨⟨ly', ny⟩, H2, I0.kept (t' := s2.toks) kp2, fun _ _ e => e, I0.hok.fresh (Nat.le_refl _), I0.hok.fresh ly', hfn, kp2 _ _ fg, [], .nil, fun i z e => by simp at e⟩
  · rintro y ks s3 g2 ⟨⟨ly, ny⟩, H3, J, sm, na3, ny3, nf3, hf3, zs, rel, kv⟩ bt
    have fa : f ≠ g.objs.size := Nat.ne_of_lt lf
    have fy : f ≠ y := Nat.ne_of_lt (Nat.lt_of_lt_of_le lf ly)
    refine ⟨⟨ly, ny⟩, H3, inv_new (tk := s3.toks) (ch := [g.objs.size, y]) I0 J (fun b hb => ?_) (fun b hb => ?_) (fun b o nb e => bt b o (fun z => nb (by rw [z]; simp)) (fun z => nb (by rw [z]; simp)) e), sm, na3, ny3, nf3, bt _ _ fa fy hf3, zs, rel, kv⟩
    · simp only [List.mem_cons, List.not_mem_nil, or_false] at hb
      rcases hb with z | z
      · rw [z]
        exact Nat.le_refl _
      · rw [z]
        exact ly
    · simp only [List.mem_cons, List.not_mem_nil, or_false] at hb
      rcases hb with z | z
      · rw [z]
        exact na3
      · rw [z]
        exact ny3
  · rintro y ks s3 v oa oy hv ⟨⟨ly, ny⟩, H3, J, sm, na3, ny3, nf3, hf3, zs, rel, kv⟩ hoa hoy
    obtain ⟨n, t', hn, rfl⟩ := items _ _ hv
    refine thn (callP (k := k) (v := .int n) J L nx hf3 (sm _ _ hco) (hbind _ _ _ _ _ _) room (fun A s H r => hbody A s H f c' r) ⟨t', rfl⟩ (bodies ks.length n H3 hn sm)) fun u s4 h4 => ?_
    obtain ⟨z, H4, os, bare, un, hok, rz, sm4, kz⟩ := h4
    have aw : g.objs.size ∉ frs X.stack := inv_apart I0 (Nat.le_refl _)
    have yw : y ∉ frs X.stack := inv_apart I0 ly
    have fw_ : f ∉ frs X.stack := hfr
    refine ⟨⟨⟨ly, ny⟩, H4, J.call' (ch := []) os un hok bare (fun b h => by cases h), sm.trans sm4, un.free _ _ hoa na3 (by simp), un.free _ _ hoy ny3 (by simp), un.free _ _ hf3 nf3 (by simp), un.keep _ _ hf3 nf3 fw_ (by simp), zs ++ [z], ?_, fun i z' e => ?_⟩, un.keep _ _ hoa na3 aw (by simp), un.keep _ _ hoy ny3 yw (by simp)⟩
    · exact vals_snoc rz rel
    · have lz : zs.length = ks.length := rel.length
      rcases Nat.lt_or_ge i zs.length with l | ge
      · rw [List.getElem?_append_left l] at e
        exact (kv i z' e).same sm4
      · have ei : i = zs.length := by
          have := (List.getElem?_eq_some_iff.mp e).1
          rw [List.length_append, List.length_singleton] at this
          omega
        subst ei
        rw [List.getElem?_append_right (Nat.le_refl _), Nat.sub_self] at e
        cases e
        rw [lz]
        exact kz
  · rintro y ks s3 ⟨_, H3, J, sm, na3, ny3, nf3, hf3, zs, rel, kv⟩ lk
    refine each_reads J.hok rel (by rw [List.length_map, List.length_range]; omega) fun i z d hz hd => ?_
    rw [List.getElem?_map] at hd
    obtain ⟨i', hi', rfl⟩ := Option.map_eq_some_iff.mp hd
    have : i' = i := by
      have l := (List.getElem?_eq_some_iff.mp hi')
      obtain ⟨l1, l2⟩ := l
      rw [List.getElem_range] at l2
      exact l2.symm
    subst this
    exact kv _ _ hz
  · rintro y ks s3 h2 out tk2 cn ⟨⟨ly, ny⟩, H3, J, sm, na3, ny3, nf3, hf3, zs, rel, kv⟩ bt hL ko
    have each : EachIs (fun (v : Value) (i : Nat) => ∃ t, v = .int (ns.getD i 0) t) vs (List.range ns.length) := each_by (by rw [len, List.length_range]) fun i a b ha hb => by
      obtain ⟨n, t', hn, rfl⟩ := items i a ha
      obtain ⟨l1, l2⟩ := List.getElem?_eq_some_iff.mp hb
      rw [List.getElem_range] at l2
      subst l2
      exact ⟨t', by rw [List.getD_eq_getElem?_getD, hn]; rfl⟩
    have each2 := keyedOut_each kk ko each
    have J2 : Inv X pins σ H3 { s3 with heap := h2, toks := tk2 } := inv_new (ch := [g.objs.size, y]) I0 J (fun b hb => by
        simp only [List.mem_cons, List.not_mem_nil, or_false] at hb
        rcases hb with z | z
        · rw [z]
          exact Nat.le_refl _
        · rw [z]
          exact ly) (fun b hb => by
        simp only [List.mem_cons, List.not_mem_nil, or_false] at hb
        rcases hb with z | z
        · rw [z]
          exact na3
        · rw [z]
          exact ny3) (fun b o nb e => bt b o (fun z => nb (by rw [z]; simp)) (fun z => nb (by rw [z]; simp)) e)
    refine ⟨.ref g.objs.size, upd H3 g.objs.size (.lst (((List.range ns.length).mergeSort (dataLe false kk)).map fun i : Nat => V.int (ns.getD i 0))), inv_lay I0 J2 (Nat.le_refl _) na3 ⟨?_, out, cn, vals_eachN each2, hL⟩, rfl, q H3 _ sm na3⟩
    rw [List.length_map, List.length_mergeSort, List.length_range, sizeLine_eq]
    omega
end SL
namespace DL
open PySem PySem.Spec PyProof.Rows L2 LamX PySem.W SL
def dSortS (fin : DK → List D → DSt → Prop) (fe : DTE) (fb : DPE) : DTE := fun r st Q => fe r st fun x st1 => onNs st1 x fun ns => ns.length ≤ 1000 ∧ ∃ k : Nat → PyData, (AllAlike ((List.range ns.length).map k) ∧ Sortable ((List.range ns.length).map k) ∧ ∀ i : Nat, (k i).depth ≤ 20) ∧
  (∀ (i : Nat) (n : Int), ns[i]? = some n → ∃ d, fb (r ++ [some (.int n)]) st1 = some d ∧ KeyD d (k i)) ∧ fin Q (((List.range ns.length).mergeSort (dataLe false k)).map fun i : Nat => .int (ns.getD i 0)) st1
theorem lift_sortS {T : List (Addr × Str)} {K : Frag} {fin : DK → List D → DSt → Prop} (fo : fin = finT ∨ fin = finN) {fe : DTE} {fb : DPE} {σ : L2.St} {H : Hp} {Q : VK} (h : lift T K (dSortS fin fe fb) σ H Q) : tSortKeyS K T (lift T K fe) (liftP T K fb) σ H Q := by
  obtain ⟨M, r, st, Q', s, re, h, k⟩ := h
  refine ⟨M, r, st, _, s, re, h, fun M1 H1 st1 x vx g1 s1 r1 q => ?_⟩
  obtain ⟨ns, e, few, key, ⟨a1, a2, a3⟩, a4, a5⟩ := onNs.of q
  obtain ⟨p, ys, rfl, sq, rs⟩ := seqS.rd s1 r1 e
  have z := rs.ints
  subst z
  refine ⟨p, ns, rfl, sq, few, s1.tabs, fun H2 ext tabs => ?_⟩
  have s2 := s1.ext ext tabs
  have g2 := grow_ext s1 ext
  refine ⟨key, a1, a2, a3, fun i n H3 hn sm => ?_, fun H3 p sm np => ?_⟩
  · obtain ⟨d, e, kd⟩ := a4 i n hn
    have s3 := s2.same sm
    refine ⟨M1, r ++ [some (.int n)], st1, d, s3, (((re.grow g1).grow g2).grow (same_grow s2 sm)).snoc (.int _), e, fun H4 v sm4 rv => ⟨sm4, ?_⟩⟩
    rcases kd with ⟨i, rfl, ek⟩ | ⟨i, j, rfl, ek⟩
    · cases rv; exact .inl ⟨i, rfl, ek⟩
    · cases rv with
      | tuk nn e0 rs =>
        obtain ⟨w1, w2, rfl, q1, q2⟩ := rs.two
        cases q1
        cases q2
        exact .inr ⟨_, i, j, rfl, e0, ek⟩
  · have s3 := s2.same sm
    have g13 : Grow M1 H1 M1 H3 := g2.trans (same_grow s2 sm)
    refine fin_new fo ((k.grow g1).grow g13) s3 ?_ np a5
    generalize (List.range ns.length).mergeSort (dataLe false key) = l
    induction l with
    | nil => exact .nil
    | cons i l ih => exact .cons (.int _) ih
theorem de_sortS {fin : DK → List D → DSt → Prop} (fo : fin = finT ∨ fin = finN) {X : Cx} {T : List (Addr × Str)} {e body : Expr} {fe : DTE} {fb : DPE} {x : Str} {params : Arguments} {scope : Scope} {k : Nat} {c Pt : Addr} {p1 p4 p5 pos : Pos} (calm : X.calm = true) (g1 : Gl X "sorted") (m1 : X.mg "sorted" = none)
    (ha : DE T X e fe) (TB : TabB X.base X.mg c Pt) (hcode : X.env.code = .ref c) (hT : (Pt, X.env.qual ++ "<lambda>") ∈ T) (hu : ∀ p ∈ T, p.1 = Pt → p.2 = X.env.qual ++ "<lambda>") (room : Room (k + 3) X.A) (L : LamP X.env.scope scope x) (nx : x ∉ X.N) (hdef : defaultsOf params X.env = ([], []))
    (hbind : ∀ (q : Str) (cl : List (Str × Addr)) (pm cv ctv u : Value), bindArgs (kla_fn "<lambda>" q params body scope cl pm cv ctv) ⟨[u], []⟩ = pure [(x, u)])
    (hbody : ∀ (A : Around) (s : Shared) (H : Hp) (f c' : Addr), Room k (A.deeper (lamEnv X scope s.heap.objs.size f c')) → DP T (cxP X A s H scope x f c') body fb)
    (na : starEach [e] X.env = (false, eval e X.env) :: starEach [] X.env := by rfl)
    (he : backTo pos (starEach [e] X.env) = (false, eval e X.env) :: backTo pos (starEach [] X.env) := by rfl) (hpl : (backTo pos (starEach [e] X.env)).any (·.1) = false := by rfl) :
    DE T X (.Call (.Name "sorted" p1) [e] [⟨some "key", .Lambda params body scope p4, p5⟩] pos) (dSortS fin fe fb) :=
  PE.imp (pe_sortKeyS calm g1 m1 ha TB hcode hT hu room L nx hdef hbind hbody na he hpl) fun _ _ _ h => lift_sortS fo h
end DL
namespace DL
open PySem PySem.Spec PyProof.Rows L2 LamX PySem.W SL
section
variable {r : DEnv} {st : DSt} {Q : DK} {E : DEnds} {f fa fb fc : DTE} {fs : DTA} {t u : DTT} {F G : DTS} {x y : D} {i j : Int} {R2' : DR2} {Rs : DRs} {i' j' : Nat}
@[simp] theorem e_var : dVar i' r st Q = onOO r[i']? fun d => Q d st := rfl
@[simp] theorem e_C : dC x r st Q = Q x st := rfl
@[simp] theorem e_op : dOp R2' fa fb r st Q = fa r st fun x st1 => fb r st1 fun y st2 => R2' x y st2 Q := rfl
@[simp] theorem e_neg : dNeg f r st Q = f r st fun x st1 => onI x fun i => Q (.int (-i)) st1 := rfl
@[simp] theorem e_isN : dIsN f r st Q = f r st fun x st1 => Q (.bl (isNon x)) st1 := rfl
@[simp] theorem e_notN : dNotN f r st Q = f r st fun x st1 => Q (.bl (!isNon x)) st1 := rfl
@[simp] theorem e_and : dAndV fa fb r st Q = fa r st fun x st1 => onB x fun c => if c = true then fb r st1 Q else Q (.bl false) st1 := rfl
@[simp] theorem e_or : dOrV fa fb r st Q = fa r st fun x st1 => onB x fun c => if c = true then Q (.bl true) st1 else fb r st1 Q := rfl
@[simp] theorem e_not : dNotV f r st Q = f r st fun x st1 => onB x fun c => Q (.bl (!c)) st1 := rfl
@[simp] theorem e_test {Qb : Bool → DSt → Prop} : dTest f r st Qb = f r st fun x st1 => onB x fun c => Qb c st1 := rfl
@[simp] theorem e_tAnd {Qb : Bool → DSt → Prop} : dtAnd t u r st Qb = t r st fun c st1 => if c = true then u r st1 Qb else Qb false st1 := rfl
@[simp] theorem e_tOr {Qb : Bool → DSt → Prop} : dtOr t u r st Qb = t r st fun c st1 => if c = true then Qb true st1 else u r st1 Qb := rfl
@[simp] theorem e_tNot {Qb : Bool → DSt → Prop} : dtNot t r st Qb = t r st fun c st1 => Qb (!c) st1 := rfl
@[simp] theorem e_tYes {Qb : Bool → DSt → Prop} : dtYes r st Qb = Qb true st := rfl
@[simp] theorem e_if : dIf t fa fb r st Q = t r st fun c st1 => if c = true then fa r st1 Q else fb r st1 Q := rfl
@[simp] theorem e_aNil {Qa : List D → DSt → Prop} : daNil r st Qa = Qa [] st := rfl
@[simp] theorem e_aCons {Qa : List D → DSt → Prop} : daCons f fs r st Qa = f r st fun d st1 => fs r st1 fun ds st2 => Qa (d :: ds) st2 := rfl
@[simp] theorem e_tup : dTup fs r st Q = fs r st fun ds st1 => okLen ds (Q (.tup ds) st1) := rfl
@[simp] theorem e_lst : dLst fs r st Q = fs r st fun ds st1 => okLen ds (Q (.lst ds) st1) := rfl
@[simp] theorem e_lstN : dLstN fs r st Q = fs r st fun ds st1 => okLen ds (Q (.ref st1.length) (st1 ++ [.lst ds])) := rfl
@[simp] theorem e_len0 {P : Prop} : okLen [] P = P := rfl
@[simp] theorem e_len1 {P : Prop} {a : D} : okLen [a] P = P := rfl
@[simp] theorem e_len2 {P : Prop} {a b : D} : okLen [a, b] P = P := rfl
@[simp] theorem e_len3 {P : Prop} {a b c : D} : okLen [a, b, c] P = P := rfl
@[simp] theorem e_len4 {P : Prop} {a b c d : D} : okLen [a, b, c, d] P = P := rfl
@[simp] theorem e_len5 {P : Prop} {a b c d e : D} : okLen [a, b, c, d, e] P = P := rfl
@[simp] theorem e_cb : dCB Rs fs r st Q = fs r st fun ds st1 => Rs ds st1 Q := rfl
@[simp] theorem e_on1 {k : D → Prop} {a : D} : on1 [a] k = k a := rfl
@[simp] theorem e_on2 {k : D → D → Prop} {a b : D} : on2 [a, b] k = k a b := rfl
@[simp] theorem e_onI {k : Int → Prop} : onI (.int i) k = k i := rfl
@[simp] theorem e_onB {k : Bool → Prop} {b : Bool} : onB (.bl b) k = k b := rfl
@[simp] theorem e_onO {α : Type} {k : α → Prop} {b : α} : onO (some b) k = k b := rfl
@[simp] theorem e_onO0 {α : Type} {k : α → Prop} : onO none k = False := rfl
@[simp] theorem e_onOO {k : D → Prop} {b : D} : onOO (some (some b)) k = k b := rfl
@[simp] theorem e_I0 {g : Int → Int → D} : dI0 g x y st Q = onI x fun i => onI y fun j => Q (g i j) st := rfl
@[simp] theorem e_I {C : Int → Int → Prop} {g : Int → Int → D} : dI C g x y st Q = onI x fun i => onI y fun j => C i j ∧ Q (g i j) st := rfl
@[simp] theorem e_add {fin : DK → List D → DSt → Prop} : dAddG fin (.int i) (.int j) st Q = Q (.int (i + j)) st := rfl
@[simp] theorem e_addT {fin : DK → List D → DSt → Prop} {xs ys : List D} : dAddG fin (.tup xs) (.tup ys) st Q = (xs.length + ys.length ≤ sizeLine ∧ Q (.tup (xs ++ ys)) st) := rfl
@[simp] theorem e_addS {fin : DK → List D → DSt → Prop} {a b : Str} : dAddG fin (.str a) (.str b) st Q = (a.length + b.length ≤ sizeLine ∧ Q (.str (a ++ b)) st) := rfl
@[simp] theorem e_addL {fin : DK → List D → DSt → Prop} {xs ys : List D} : dAddG fin (.lst xs) (.lst ys) st Q = (xs.length + ys.length ≤ sizeLine ∧ fin Q (xs ++ ys) st) := rfl
@[simp] theorem e_addLR {fin : DK → List D → DSt → Prop} {xs : List D} {n : Nat} : dAddG fin (.lst xs) (.ref n) st Q = onO (lstS st (.ref n)) fun ys => xs.length + ys.length ≤ sizeLine ∧ fin Q (xs ++ ys) st := rfl
@[simp] theorem e_addRL {fin : DK → List D → DSt → Prop} {ys : List D} {n : Nat} : dAddG fin (.ref n) (.lst ys) st Q = onO (lstS st (.ref n)) fun xs => xs.length + ys.length ≤ sizeLine ∧ fin Q (xs ++ ys) st := rfl
@[simp] theorem e_addRR {fin : DK → List D → DSt → Prop} {m n : Nat} : dAddG fin (.ref m) (.ref n) st Q = onO (lstS st (.ref m)) fun xs => onO (lstS st (.ref n)) fun ys => xs.length + ys.length ≤ sizeLine ∧ fin Q (xs ++ ys) st := rfl
@[simp] theorem e_mul {fin : DK → List D → DSt → Prop} : dMulG fin (.int i) (.int j) st Q = (CMul i j ∧ Q (.int (i * j)) st) := rfl
@[simp] theorem e_mulL {fin : DK → List D → DSt → Prop} {xs : List D} : dMulG fin (.lst xs) (.int i) st Q = ((-1000 ≤ i ∧ xs.length * i.toNat ≤ 1000 ∧ i ≤ 100000000) ∧ fin Q (List.replicate i.toNat xs).flatten st) := rfl
@[simp] theorem e_mulT {fin : DK → List D → DSt → Prop} {xs : List D} : dMulG fin (.tup xs) (.int i) st Q = (xs ≠ [] ∧ 1 ≤ i ∧ i ≤ 1000 ∧ xs.length ≤ 1000 ∧ Q (.tup (List.replicate i.toNat xs).flatten) st) := rfl
@[simp] theorem e_rev : dRev f r st Q = f r st fun x st1 => dRevV x st1 Q := rfl
@[simp] theorem e_revT {xs : List D} : dRevV (.tup xs) st Q = Q (.tup xs.reverse) st := rfl
@[simp] theorem e_ix : dIx x y st Q = onO (seqS st x) fun ds => onI y fun i => onO (atI ds i) fun d => Q d st := rfl
@[simp] theorem e_eqI : dEqG false (.int i) (.int j) st Q = Q (.bl (decide (i = j))) st := rfl
@[simp] theorem e_eqS {a b : Str} : dEqG false (.str a) (.str b) st Q = Q (.bl (decide (a = b))) st := rfl
@[simp] theorem e_eqB {a b : Bool} : dEqG false (.bl a) (.bl b) st Q = Q (.bl (decide (a = b))) st := rfl
@[simp] theorem e_neI : dEqG true (.int i) (.int j) st Q = Q (.bl (!decide (i = j))) st := rfl
@[simp] theorem e_neS {a b : Str} : dEqG true (.str a) (.str b) st Q = Q (.bl (!decide (a = b))) st := rfl
@[simp] theorem e_neB {a b : Bool} : dEqG true (.bl a) (.bl b) st Q = Q (.bl (!decide (a = b))) st := rfl
@[simp] theorem e_ltI : dLtG (.int i) (.int j) st Q = Q (.bl (decide (i < j))) st := rfl
@[simp] theorem e_in : dInG false x y st Q = onO (seqS st y) fun ds => (flatD x = true ∧ ds.all flatD = true) ∧ Q (.bl (ds.any fun y => eqF y x)) st := rfl
@[simp] theorem e_nin : dInG true x y st Q = onO (seqS st y) fun ds => (flatD x = true ∧ ds.all flatD = true) ∧ Q (.bl (!(ds.any fun y => eqF y x))) st := rfl
@[simp] theorem e_chain {a b : DR2} : dChain a b fa fb fc r st Q = fa r st fun x st1 => fb r st1 fun y st2 => a x y st2 fun z st3 => onB z fun k => if k = true then fc r st3 fun w st4 => b y w st4 Q else Q (.bl false) st3 := rfl
@[simp] theorem e_len : dLen [x] st Q = onO (seqS st x) fun xs => Q (.int xs.length) st := rfl
@[simp] theorem e_abs : dAbs [.int i] st Q = Q (.int (if i < 0 then -i else i)) st := rfl
@[simp] theorem e_2I {g : Int → Int → Int} : d2I g [.int i, .int j] st Q = Q (.int (g i j)) st := rfl
@[simp] theorem e_tuple1 {xs : List D} : dTuple [.tup xs] st Q = Q (.tup xs) st := rfl
@[simp] theorem e_tuple2 {xs : List D} : dTuple [.lst xs] st Q = Q (.tup xs) st := rfl
@[simp] theorem e_tuple3 {n : Nat} : dTuple [.ref n] st Q = onO (seqS st (.ref n)) fun xs => Q (.tup xs) st := rfl
@[simp] theorem e_listT : dListT [x] st Q = onO (seqS st x) fun xs => Q (.lst xs) st := rfl
@[simp] theorem e_listN : dListN [x] st Q = onO (seqS st x) fun xs => Q (.ref st.length) (st ++ [.lst xs]) := rfl
@[simp] theorem e_allR {g : List Bool → Bool} {xs : List D} : dAllR g [.lst xs] st Q = onO (boolsD xs) fun bs => Q (.bl (g bs)) st := rfl
@[simp] theorem e_seqT {xs : List D} : seqS st (.tup xs) = some xs := rfl
@[simp] theorem e_seqK {xs : List D} : seqS st (.tuk xs) = some xs := rfl
@[simp] theorem e_seqL {xs : List D} : seqS st (.lst xs) = some xs := rfl
theorem seq_ref {n : Nat} {xs : List D} (h : st[n]? = some (.lst xs)) : seqS st (.ref n) = some xs := by unfold seqS; simp only [h]
@[simp] theorem e_repr : dRepr [x] st Q = onO (pdS st x) fun p => (p.showable = true ∧ p.depth ≤ 50 ∧ p.shown.length ≤ sizeLine) ∧ Q (.str p.shown) st := rfl
@[simp] theorem e_isi {u : String} : dIsi u f r st Q = f r st fun x st1 => onO (tyN st1 x) fun t => Q (.bl (subTy t u)) st1 := rfl
@[simp] theorem e_isB {a b : Bool} : dIsB (.bl a) (.bl b) st Q = Q (.bl (decide (a = b))) st := rfl
@[simp] theorem e_notB {a b : Bool} : dNotB (.bl a) (.bl b) st Q = Q (.bl (!decide (a = b))) st := rfl
@[simp] theorem e_truth {Qb : Bool → DSt → Prop} : dTruth f r st Qb = f r st fun x st1 => onO (truD st1 x) fun c => Qb c st1 := rfl
@[simp] theorem e_next : sNext E r st = E.nx r st := rfl
@[simp] theorem e_seq : sSeq F G E r st = F { E with nx := G E } r st := rfl
@[simp] theorem e_drop : sDrop f E r st = f r st fun _ st1 => E.nx r st1 := rfl
@[simp] theorem e_ret : sRet f E r st = f r st E.rt := rfl
@[simp] theorem e_retN : sRetN E r st = E.rt .non st := rfl
@[simp] theorem e_ifS : sIf t F G E r st = t r st fun b st1 => if b = true then F E r st1 else G E r st1 := rfl
@[simp] theorem e_set : sSet i' f E r st = f r st fun d st1 => E.nx (r.set i' (some d)) st1 := rfl
@[simp] theorem e_asg {g : DTG} : sAsg f g E r st = f r st fun d st1 => g d r st1 E.nx := rfl
@[simp] theorem e_par : sPar i' j' fs E r st = fs r st fun ds st1 => on2 ds fun d e => E.nx ((r.set i' (some d)).set j' (some e)) st1 := rfl
@[simp] theorem e_nm {k : DEnv → DSt → Prop} : gNm i' x r st k = k (r.set i' (some x)) st := rfl
@[simp] theorem e_gsN {k : DEnv → DSt → Prop} : gsNil [] r st k = k r st := rfl
@[simp] theorem e_gsC {k : DEnv → DSt → Prop} {g : DTG} {h : DTGs} {ds : List D} : gsCons g h (x :: ds) r st k = g x r st fun r1 st1 => h ds r1 st1 k := rfl
@[simp] theorem e_gTpK {k : DEnv → DSt → Prop} {h : DTGs} {ds : List D} : gTp i' h (.tuk ds) r st k = (ds.length = i' ∧ h ds r st k) := rfl
@[simp] theorem e_gTpL {k : DEnv → DSt → Prop} {h : DTGs} {ds : List D} : gTp i' h (.lst ds) r st k = (ds.length = i' ∧ h ds r st k) := rfl
@[simp] theorem e_sum : dSum [x] st Q = onO (seqS st x) fun xs => onO (intsD xs) fun ns => Q (.int ns.sum) st := rfl
@[simp] theorem e_maxL : dMaxL [x] st Q = onO (seqS st x) fun xs => onO (intsD xs) fun ns => 0 < ns.length ∧ ∀ m, m ∈ ns → (∀ y, y ∈ ns → y ≤ m) → Q (.int m) st := rfl
@[simp] theorem e_minL : dMinL [x] st Q = onO (seqS st x) fun xs => onO (intsD xs) fun ns => 0 < ns.length ∧ ∀ m, m ∈ ns → (∀ y, y ∈ ns → m ≤ y) → Q (.int m) st := rfl
@[simp] theorem e_maxDef : dMaxDef fa fb r st Q = fa r st fun x st1 => fb r st1 fun d st2 => onO (seqS st2 x) fun xs => onO (intsD xs) fun ns => (ns = [] → Q d st2) ∧ ∀ m, m ∈ ns → (∀ y, y ∈ ns → y ≤ m) → Q (.int m) st2 := rfl
@[simp] theorem e_int : dInt [.int i] st Q = Q (.int i) st := rfl
@[simp] theorem e_intB {b : Bool} : dInt [.bl b] st Q = Q (.int (if b then 1 else 0)) st := rfl
@[simp] theorem e_aug {g : Int → Int → Int} : sAug i' g f E r st = onOO r[i']? fun x => f r st fun y st1 => onI x fun m => onI y fun n => E.nx (r.set i' (some (.int (g m n)))) st1 := rfl
@[simp] theorem e_on3 {k : D → D → D → Prop} {a b c : D} : on3 [a, b, c] k = k a b c := rfl
@[simp] theorem e_par3 {l' : Nat} : sPar3 i' j' l' fs E r st = fs r st fun ds st1 => on3 ds fun d e g => E.nx (((r.set i' (some d)).set j' (some e)).set l' (some g)) st1 := rfl
@[simp] theorem e_newK : dNewK r st Q = Q (.ref st.length) (st ++ [.dK []]) := rfl
@[simp] theorem e_getK : dGetK x y st Q = onDk st x fun n kvs => onO (keyD y) fun k => onO (valD kvs k) fun d => Q d st := rfl
@[simp] theorem e_keyI : keyD (.int i) = some (.inl i) := rfl
@[simp] theorem e_keyS {a : Str} : keyD (.str a) = some (.inr a) := rfl
@[simp] theorem e_inK : dInK false fa fb r st Q = fa r st fun y st1 => fb r st1 fun x st2 => onDk st2 x fun n kvs => onO (keyD y) fun k => Q (.bl (valD kvs k).isSome) st2 := rfl
@[simp] theorem e_ninK : dInK true fa fb r st Q = fa r st fun y st1 => fb r st1 fun x st2 => onDk st2 x fun n kvs => onO (keyD y) fun k => Q (.bl (!(valD kvs k).isSome)) st2 := rfl
@[simp] theorem e_putK : sPutK fa fb fc E r st = fc r st fun v st1 => fa r st1 fun x st2 => fb r st2 fun y st3 => onDk st3 x fun n kvs => onO (keyD y) fun k => kvs.length < sizeLine ∧ E.nx r (st3.set n (.dK (putD kvs k v))) := rfl
@[simp] theorem e_lenK : dLenK [x] st Q = onDk st x fun n kvs => Q (.int kvs.length) st := rfl
@[simp] theorem e_lstS {xs : List D} : lstS st (.lst xs) = some xs := rfl
@[simp] theorem e_seqX {xs : List D} : seqS st (.scr xs) = some xs := rfl
@[simp] theorem e_gTpT {k : DEnv → DSt → Prop} {h : DTGs} {ds : List D} : gTp i' h (.tup ds) r st k = (ds.length = i' ∧ h ds r st k) := rfl
@[simp] theorem e_oN {k : Option Int → DSt → Prop} : oNone r st k = k none st := rfl
@[simp] theorem e_oS {k : Option Int → DSt → Prop} : oSome f r st k = f r st fun d st1 => onI d fun i => k (some i) st1 := rfl
@[simp] theorem e_sl {fin : DK → List D → DSt → Prop} {lo hi : DTO} : dSlG fin f lo hi r st Q = f r st fun x st1 => lo r st1 fun l st2 => hi r st2 fun u st3 => dSlV fin x l u st3 Q := rfl
@[simp] theorem e_slT {fin : DK → List D → DSt → Prop} {lo hi : Option Int} {xs : List D} : dSlV fin (.tup xs) lo hi st Q = Q (.tup (cutD xs lo hi)) st := rfl
@[simp] theorem e_slL {fin : DK → List D → DSt → Prop} {lo hi : Option Int} {xs : List D} : dSlV fin (.lst xs) lo hi st Q = fin Q (cutD xs lo hi) st := rfl
@[simp] theorem e_finT {xs : List D} : finT Q xs st = Q (.lst xs) st := rfl
@[simp] theorem e_finN {xs : List D} : finN Q xs st = Q (.ref st.length) (st ++ [.lst xs]) := rfl
@[simp] theorem e_index : dIndex f fs r st Q = f r st fun x st1 => IdxD st1 x ∧ fs r st1 fun ds st2 => mIndex x ds st2 Q := rfl
@[simp] theorem e_idxT {xs : List D} : IdxD st (.tup xs) = True := rfl
@[simp] theorem e_idxL {xs : List D} : IdxD st (.lst xs) = True := rfl
@[simp] theorem e_mIx : mIndex x [.int i] st Q = onO (ixS st x) fun xs => onO (intsD xs) fun ns => onO (ixOf i ns) fun j => Q (.int (j : Nat)) st := rfl
@[simp] theorem e_ixST {xs : List D} : ixS st (.tup xs) = some xs := rfl
@[simp] theorem e_ixSL {xs : List D} : ixS st (.lst xs) = some xs := rfl
@[simp] theorem e_mtL {m : D → List D → DSt → DK → Prop} : dMtL m f fs r st Q = f r st fun x st1 => LstD st1 x ∧ fs r st1 fun ds st2 => m x ds st2 Q := rfl
@[simp] theorem e_w {k : DIt → DSt → Prop} : wSeq f r st k = f r st fun d st1 => onO (itOf st1 d) fun I => k I st1 := rfl
@[simp] theorem e_w1 {k : DIt → DSt → Prop} : wRng1 fs r st k = fs r st fun ds st1 => on1 ds fun x => onI x fun j => (-(2 ^ 62) ≤ j ∧ j < 2 ^ 62) ∧ k ⟨rgD 0 j.toNat, none⟩ st1 := rfl
@[simp] theorem e_w2 {k : DIt → DSt → Prop} : wRng2 fs r st k = fs r st fun ds st1 => on2 ds fun x y => onI x fun i => onI y fun j => (-(2 ^ 62) ≤ i ∧ i < 2 ^ 62 ∧ -(2 ^ 62) ≤ j ∧ j < 2 ^ 62) ∧ k ⟨rgD i (j - i).toNat, none⟩ st1 := rfl
@[simp] theorem e_wE {k : DIt → DSt → Prop} : wEnum fs r st k = fs r st fun ds st1 => on1 ds fun x => onO (itOf st1 x) fun I => k ⟨enumD I.items, I.src⟩ st1 := rfl
@[simp] theorem e_wZ {k : DIt → DSt → Prop} : wZip fs r st k = fs r st fun ds st1 => on2 ds fun x y => onO (itT x) fun I => onO (itT y) fun J => k ⟨zipD I.items J.items, none⟩ st1 := rfl
@[simp] theorem e_itK {xs : List D} : itOf st (.tuk xs) = some ⟨xs, none⟩ := rfl
@[simp] theorem e_itT {xs : List D} : itOf st (.tup xs) = some ⟨xs, none⟩ := rfl
@[simp] theorem e_itL {xs : List D} : itOf st (.lst xs) = some ⟨xs, none⟩ := rfl
@[simp] theorem e_itT2 {xs : List D} : itT (.tup xs) = some ⟨xs, none⟩ := rfl
@[simp] theorem e_itL2 {xs : List D} : itL st (.lst xs) = some ⟨xs, none⟩ := rfl
@[simp] theorem e_lc {w : DTI} {g : DTG} {vs : List Nat} {fin : DK → List D → DSt → Prop} : dLcG w g t f vs fin r st Q = w r st fun I st1 => I.items.length ≤ sizeLine ∧ compL I g t f (wipeD r vs) (fin Q) I.items [] st1 := rfl
@[simp] theorem e_for {w : DTI} {g : DTG} : sFor w g F E r st = w r st fun I st1 => forL I g F E st1 I.items r st1 := rfl
@[simp] theorem e_wipe0 : wipeD r [] = r := rfl
@[simp] theorem e_wipe {v : Nat} {vs : List Nat} : wipeD r (v :: vs) = (wipeD r vs).set v none := rfl
@[simp] theorem e_okI {xs : List D} {P : Prop} : okI ⟨xs, none⟩ st P = P := rfl
@[simp] theorem e_okR {xs ys : List D} {n : Nat} {P : Prop} : okI ⟨xs, some (n, ys)⟩ st P = (st[n]? = some (.lst ys) ∧ P) := rfl
end
def Ev (f : DTE) (r : DEnv) (st : DSt) (d : D) : Prop := ∀ Q : DK, Q d st → f r st Q
def EvT (t : DTT) (r : DEnv) (st : DSt) (b : Bool) : Prop := ∀ Q : Bool → DSt → Prop, Q b st → t r st Q
theorem compL_map {g : DTG} {tt : DTT} {te : DTE} {r : DEnv} {Q : List D → DSt → Prop} {st : DSt} {xs : List D} (p : D → Bool) (h : D → D) :
    ∀ (items acc : List D), (∀ d ∈ items, ∀ Q' : DEnv → DSt → Prop, (∀ r2, EvT tt r2 st (p d) → (p d = true → Ev te r2 st (h d)) → Q' r2 st) → g d r st Q') → Q (acc ++ (items.filter p).map h) st → compL ⟨xs, none⟩ g tt te r Q items acc st
  | [], acc, _, q => by
    have q' : Q acc st := by simpa using q
    exact q'
  | d :: ds, acc, hh, q => by
    show g d r st _
    refine hh d List.mem_cons_self _ fun r2 e1 e2 => e1 _ ?_
    cases e : p d with
    | true =>
      refine iteT (e2 e _ (compL_map p h ds _ (fun d' hd => hh d' (List.mem_cons_of_mem _ hd)) ?_))
      rw [List.filter_cons_of_pos e, List.map_cons] at q
      simpa using q
    | false =>
      refine iteF (compL_map p h ds _ (fun d' hd => hh d' (List.mem_cons_of_mem _ hd)) ?_)
      rw [List.filter_cons_of_neg (by rw [e]; decide)] at q
      exact q
theorem lc_map {te : DTE} {r : DEnv} {Q : List D → DSt → Prop} {st : DSt} {xs items : List D} {i : Nat} (h : D → D) (he : ∀ d ∈ items, Ev te (r.set i (some d)) st (h d)) (q : Q (items.map h) st) : compL ⟨xs, none⟩ (gNm i) dtYes te r Q items [] st := by
  refine compL_map (fun _ => true) h items [] (fun d hd Q' k => k _ (fun Q q => q) fun _ => he d hd) ?_
  rw [List.filter_eq_self.mpr (fun _ _ => rfl)]
  simpa using q
theorem lc_if {tt : DTT} {te : DTE} {r : DEnv} {Q : List D → DSt → Prop} {st : DSt} {xs items : List D} {i : Nat} (p : D → Bool) (h : D → D) (ht : ∀ d ∈ items, EvT tt (r.set i (some d)) st (p d)) (he : ∀ d ∈ items, p d = true → Ev te (r.set i (some d)) st (h d)) (q : Q ((items.filter p).map h) st) : compL ⟨xs, none⟩ (gNm i) tt te r Q items [] st :=
  compL_map p h items [] (fun d hd Q' k => k _ (ht d hd) (he d hd)) (by simpa using q)
theorem rgD_mem {lo : Int} {n : Nat} {d : D} (h : d ∈ rgD lo n) : ∃ i : Nat, i < n ∧ d = .int (lo + (i : Nat)) := by
  obtain ⟨i, hi⟩ := List.mem_iff_getElem?.mp h
  obtain ⟨lt, e⟩ := rgD_get hi
  exact ⟨i, lt, e⟩
theorem rgD0 (n : Nat) : rgD 0 n = (List.range n).map fun i => D.int (i : Nat) := by
  unfold rgD
  exact List.map_congr_left fun i _ => by rw [Int.zero_add]
theorem lc_rng {te : DTE} {r : DEnv} {Q : List D → DSt → Prop} {st : DSt} {xs : List D} {n i : Nat} (h : Nat → D) (he : ∀ k : Nat, k < n → Ev te (r.set i (some (.int (k : Nat)))) st (h k)) (q : Q ((List.range n).map h) st) : compL ⟨xs, none⟩ (gNm i) dtYes te r Q (rgD 0 n) [] st := by
  refine lc_map (fun d => match d with | .int i => h i.toNat | _ => .non) (fun d hd => ?_) ?_
  · obtain ⟨k, lt, rfl⟩ := rgD_mem hd
    rw [Int.zero_add]
    exact he k lt
  · rw [rgD0, List.map_map]
    exact q
theorem Wk.id {b : DSt} {P : DEnv → DSt → Prop} {r : DEnv} {st : DSt} (h : P r st) : Wk b P r st := .inl h
theorem for_inv {I : DIt} {g : DTG} {F : DTS} {E : DEnds} {b : DSt} (W : List D → DEnv → DSt → Prop)
    (turn : ∀ d ds r st (N : DEnv → DSt → Prop), (∀ r st, Wk b (W ds) r st → N r st) → W (d :: ds) r st → okI I st (g d r st fun r1 st1 => F { nx := N, rt := E.rt, bk := E.nx, ct := N } r1 st1)) (done : ∀ r st, W [] r st → okI I st (E.nx r st)) :
    ∀ (items : List D) (r : DEnv) (st : DSt), W items r st → forL I g F E b items r st
  | [], r, st, h => done r st h
  | d :: ds, r, st, h => by
    refine turn d ds r st _ (fun r st w => ?_) h
    rcases w with w | ⟨r', n, h1, h2, h3, h4, h5, w⟩
    · exact .inl (for_inv W turn done ds r st w)
    · exact .inr ⟨r', n, h1, h2, h3, h4, h5, for_inv W turn done ds r' _ w⟩
theorem while_inv {t : DTT} {F : DTS} {E : DEnds} {b : DSt} (W : Nat → DEnv → DSt → Prop)
    (turn : ∀ m r st (N : DEnv → DSt → Prop), (∀ k r st, k < m → Wk b (W k) r st → N r st) → W m r st → t r st fun c st1 => if c = true then F { nx := N, rt := E.rt, bk := E.nx, ct := N } r st1 else E.nx r st1) :
    ∀ (n m : Nat) (r : DEnv) (st : DSt), m < n → W m r st → whileL t F E b n r st
  | 0, m, r, st, lt, _ => absurd lt (Nat.not_lt_zero m)
  | n + 1, m, r, st, lt, h => by
    refine turn m r st _ (fun k r st lk w => ?_) h
    rcases w with w | ⟨r', j, h1, h2, h3, h4, h5, w⟩
    · exact .inl (while_inv W turn n k r st (by omega) w)
    · exact .inr ⟨r', j, h1, h2, h3, h4, h5, while_inv W turn n k r' _ (by omega) w⟩
theorem s_while {t : DTT} {F : DTS} {E : DEnds} {r : DEnv} {st : DSt} (W : Nat → DEnv → DSt → Prop) (m : Nat) (h : W m r st)
    (turn : ∀ m r st' (N : DEnv → DSt → Prop), (∀ k r st', k < m → Wk st (W k) r st' → N r st') → W m r st' → t r st' fun c st1 => if c = true then F { nx := N, rt := E.rt, bk := E.nx, ct := N } r st1 else E.nx r st1) : sWhile t F E r st :=
  ⟨m + 1, while_inv W turn (m + 1) m r st (Nat.lt_succ_self m) h⟩
end DL
namespace DL
open PySem PySem.Spec PyProof.Rows L2 LamX PySem.W SL
def F_ring_at : DTS := (sSeq (sSet 2 (dOp dIx (dVar 0) (dVar 1))) (sSeq (sFor (wRng1 (daCons (dCB dLen (daCons (dVar 2) daNil)) daNil)) (gNm 3) (sFor (wSeq (dOp dIx (dVar 2) (dVar 3))) (gNm 4) (sFor (wSeq (dOp dIx (dVar 2) (dVar 4))) (gNm 5) (sIf (dTest (dOp dIn (dVar 3) (dOp dIx (dVar 2) (dVar 5)))) (sRet (dTup (daCons (dVar 3) (daCons (dVar 4) (daCons (dVar 5) daNil))))) sNext)))) (sRet (dC .non))))
def F__law_pick (g__law_take : DRs) : DTS := (sRet (dOp dIx (dVar 1) (dCB g__law_take (daCons (dVar 0) (daCons (dCB dLen (daCons (dVar 1) daNil)) daNil)))))
end DL
namespace DL
open PySem PySem.Spec PyProof.Rows L2 LamX PySem.W SL
@[simp] theorem at0 {α : Type} {a : α} {xs : List α} : atI (a :: xs) 0 = some a := by unfold atI ixN; simp
@[simp] theorem at1 {α : Type} {a b : α} {xs : List α} : atI (a :: b :: xs) 1 = some b := atI_nat (j := 1) rfl
@[simp] theorem at2 {α : Type} {a b c : α} {xs : List α} : atI (a :: b :: c :: xs) 2 = some c := atI_nat (j := 2) rfl
def setS (o i d : D) (st : DSt) (P : DSt → Prop) : Prop := match o with
  | .ref n => onI i fun k => match st[n]? with
    | some (.lst xs) => onO (ixN xs.length k) fun j => P (st.set n (.lst (xs.set j d)))
    | _ => False
  | _ => False
@[simp] theorem e_gSb {fo fi : DTE} {x : D} {r : DEnv} {st : DSt} {k : DEnv → DSt → Prop} : gSb fo fi x r st k = fo r st fun o st1 => fi r st1 fun i st2 => setS o i x st2 (k r) := rfl
theorem setS_ref {n : Nat} {k : Int} {d : D} {st : DSt} {P : DSt → Prop} {xs : List D} (h : st[n]? = some (.lst xs)) : setS (.ref n) (.int k) d st P = onO (ixN xs.length k) fun j => P (st.set n (.lst (xs.set j d))) := by
  unfold setS
  simp only [e_onI, h]
def PotO (n : Nat) (o : O) : Prop := ∃ g m c : Int, o = .lst [.int g, .int m, .int c] ∧ 0 ≤ g ∧ g < 10 ^ 400 ∧ 0 ≤ m ∧ m < 2 ^ 61 ∧ 0 ≤ c ∧ c + n ≤ 1000000
theorem PotO.less {n m : Nat} {o : O} (h : PotO n o) (l : m ≤ n) : PotO m o := by
  obtain ⟨g, a, c, h1, h2, h3, h4, h5, h6, h7⟩ := h
  exact ⟨g, a, c, h1, h2, h3, h4, h5, h6, by omega⟩
def Pot (n : Nat) (p : Nat) (st : DSt) : Prop := ∃ o, st[p]? = some o ∧ PotO n o
theorem Pot.less {n m p : Nat} {st : DSt} (h : Pot n p st) (l : m ≤ n) : Pot m p st := by
  obtain ⟨o, e, h⟩ := h
  exact ⟨o, e, h.less l⟩
theorem Pot.lt {n p : Nat} {st : DSt} (h : Pot n p st) : p < st.length := by
  obtain ⟨o, e, h⟩ := h
  exact (List.getElem?_eq_some_iff.mp e).1
theorem Pot.set {n p : Nat} {st : DSt} {o : O} (lt : p < st.length) (h : PotO n o) : Pot n p (st.set p o) := ⟨o, List.getElem?_set_self lt, h⟩
theorem Pot.app {n p : Nat} {st : DSt} {os : List O} (h : Pot n p st) : Pot n p (st ++ os) := by
  obtain ⟨o, e, h⟩ := h
  exact ⟨o, by rw [List.getElem?_append_left (List.getElem?_eq_some_iff.mp e).1]; exact e, h⟩
def g_take : DRs := fun ds st Q => ∃ (p : Nat) (z : Int) (n : Nat), ds = [.ref p, .int z] ∧ Pot (n + 1) p st ∧ 0 < z ∧ z ≤ 1000 ∧ ∀ (r : Int) (o : O), 0 ≤ r → r < z → PotO n o → Q (.int r) (st.set p o)
theorem ar_take (ds : List D) (st : DSt) (Q : DK) (h : g_take ds st Q) : ds.length = 2 := by
  obtain ⟨p, z, n, rfl, _⟩ := h
  rfl
def g_pot : DRs := fun ds st Q => ∃ (ns : List Int) (x : D) (k : Nat), ds = [x, .int k] ∧ Scr ns x ∧ k ≤ 3 ∧ ∀ o, PotO 1000000 o → Q (.ref st.length) (st ++ [o])
theorem ar_pot (ds : List D) (st : DSt) (Q : DK) (h : g_pot ds st Q) : ds.length = 2 := by
  obtain ⟨ns, x, k, rfl, _⟩ := h
  rfl
theorem seqS_set {st : DSt} {p : Nat} {o : O} {x : D} (h : x ≠ .ref p) : seqS (st.set p o) x = seqS st x := by
  cases x with
  | ref n =>
    have ne : n ≠ p := fun e => h (by rw [e])
    unfold seqS
    simp only [List.getElem?_set_ne (fun e => ne e.symm)]
  | _ => rfl
theorem PotO.lst {n : Nat} {o : O} (h : PotO n o) : ∃ xs, o = .lst xs := by
  obtain ⟨g, m, c, e, _⟩ := h
  exact ⟨_, e⟩
def g_pick : DRs := fun ds st Q => ∃ (p : Nat) (x : D) (xs : List D) (n : Nat), ds = [.ref p, x] ∧ x ≠ .ref p ∧ seqS st x = some xs ∧ xs ≠ [] ∧ xs.length ≤ 1000 ∧ Pot (n + 1) p st ∧ ∀ (d : D) (o : O), d ∈ xs → PotO n o → Q d (st.set p o)
theorem ar_pick (ds : List D) (st : DSt) (Q : DK) (h : g_pick ds st Q) : ds.length = 2 := by
  obtain ⟨ns, x, xs, k, rfl, _⟩ := h
  rfl
theorem sem_pick (ds : List D) (st : DSt) (Q : DK) (h : g_pick ds st Q) : F__law_pick g_take { nx := fun _ st' => Rt st Q .non st', rt := Rt st Q } (startD 2 ds) st := by
  obtain ⟨p, x, xs, n, rfl, ne, sq, nn, l, pot, q⟩ := h
  have st2 : startD 2 [D.ref p, x] = [some (.ref p), some x] := rfl
  have l0 : 0 < xs.length := List.length_pos_iff.mpr nn
  simp [F__law_pick, st2, sq]
  refine ⟨p, _, n, rfl, pot, by omega, by omega, fun r o r0 r1 po => ?_⟩
  show onO (seqS (st.set p o) x) _
  rw [seqS_set ne, sq]
  have lt : r.toNat < xs.length := by omega
  have ha : atI xs r = some xs[r.toNat] := by
    have z := atI_nat (xs := xs) (j := r.toNat) (v := xs[r.toNat]) (List.getElem?_eq_getElem lt)
    rw [Int.toNat_of_nonneg r0] at z
    exact z
  simp only [e_onO, e_onI, ha]
  exact .inl (q _ o (List.getElem_mem lt) po)
def lineI (n : Nat) (b : Int) : List Int := (List.range n).map fun i : Nat => (b + (i : Int)) % (n : Int)
theorem take_same {st st1 : DSt} {junk : List O} (l : st1.length = st.length) : (st1 ++ junk).take st.length = st1 := by
  rw [← l]
  simp
theorem cloS_app {st st1 : DSt} {junk : List O} (l : st1.length = st.length) (cs : ∀ (i : Nat) (o : O), st1[i]? = some o → st[i]? = some o ∨ cloO st.length o = true) : cloS st st.length (st1 ++ junk) := fun i o lt e => by
  rw [List.getElem?_append_left (by omega)] at e
  exact cs i o e
theorem rt_drop {st st1 : DSt} {junk : List O} {d : D} {Q : DK} (l : st1.length = st.length) (c : clo st.length d = true) (cs : ∀ (i : Nat) (o : O), st1[i]? = some o → st[i]? = some o ∨ cloO st.length o = true) (q : Q d st1) : Rt st Q d (st1 ++ junk) :=
  .inr (.inl ⟨st.length, Nat.le_refl _, by rw [List.length_append]; omega, c, cloS_app l cs, by rw [take_same l]; exact q⟩)
theorem rt_list {st st1 : DSt} {junk : List O} {n : Nat} {ds : List D} {Q : DK} (l : st1.length = st.length) (le : st.length ≤ n) (e : (st1 ++ junk)[n]? = some (.lst ds)) (c : clos st.length ds = true) (cs : ∀ (i : Nat) (o : O), st1[i]? = some o → st[i]? = some o ∨ cloO st.length o = true) (q : Q (.lst ds) st1) : Rt st Q (.ref n) (st1 ++ junk) :=
  .inr (.inr ⟨st.length, .lst ds, Nat.le_refl _, by rw [List.length_append]; omega, .own le e (.same c), cloS_app l cs, by rw [take_same l]; exact q⟩)
theorem clos_ints (n : Nat) : ∀ ns : List Int, clos n (ns.map D.int) = true
  | [] => by simp [clos]
  | i :: ns => by
    rw [List.map_cons]
    simp only [clos, clo, Bool.true_and]
    exact clos_ints n ns
theorem PotO.clo {n m : Nat} {o : O} (h : PotO n o) : cloO m o = true := by
  obtain ⟨g, a, c, rfl, _⟩ := h
  simp [cloO, clos, DL.clo]
theorem cs_set {st : DSt} {p n m : Nat} {o : O} (h : PotO n o) : ∀ (i : Nat) (u : O), (st.set p o)[i]? = some u → st[i]? = some u ∨ cloO m u = true := fun i u e => by
  by_cases z : i = p
  · subst z
    have lt : i < st.length := by
      have := (List.getElem?_eq_some_iff.mp e).1
      rw [List.length_set] at this
      exact this
    rw [List.getElem?_set_self lt] at e
    cases e
    exact .inr h.clo
  · rw [List.getElem?_set_ne (fun w => z w.symm)] at e
    exact .inl e
mutual
theorem pdT_clo {n : Nat} : ∀ {d : D} {p : PyData}, pdT d = some p → clo n d = true
  | .non, _, e => by simp [clo]
  | .bl b, _, e => by simp [clo]
  | .int b, _, e => by simp [clo]
  | .str b, _, e => by simp [clo]
  | .tup ds, _, e => by
    simp only [pdT, Option.map_eq_some_iff] at e
    obtain ⟨ps, e, rfl⟩ := e
    simp only [clo]
    exact pdTs_clo e
  | .tuk ds, _, e => by
    simp only [pdT, Option.map_eq_some_iff] at e
    obtain ⟨ps, e, rfl⟩ := e
    simp only [clo]
    exact pdTs_clo e
  | .lst ds, _, e => by
    simp only [pdT, Option.map_eq_some_iff] at e
    obtain ⟨ps, e, rfl⟩ := e
    simp only [clo]
    exact pdTs_clo e
  | .scr ds, _, e => by
    simp only [pdT, Option.map_eq_some_iff] at e
    obtain ⟨ps, e, rfl⟩ := e
    simp only [clo]
    exact pdTs_clo e
  | .ref n, _, e => by simp [pdT] at e
theorem pdTs_clo {n : Nat} : ∀ {d : List D} {p : List PyData}, pdTs d = some p → clos n d = true
  | [], _, e => by simp [clos]
  | d :: ds, _, e => by
    unfold pdTs at e
    cases q : pdT d with
    | none => rw [q] at e; cases e
    | some y =>
      rw [q] at e
      simp only [Option.map_eq_some_iff] at e
      obtain ⟨ps, e, rfl⟩ := e
      simp only [clos, pdT_clo q, pdTs_clo e, Bool.and_self]
end
theorem sm_clos {k c n : Nat} {ds : List D} (h : ∀ d ∈ ds, Sm k c d) : clos n ds = true := by
  obtain ⟨ps, e, _⟩ := sm_all h
  exact pdTs_clo e
theorem Sm.clo {k c n : Nat} {d : D} (h : Sm k c d) : DL.clo n d = true := by
  obtain ⟨p, e, _⟩ := h
  exact pdT_clo e
theorem ne_nil {st : DSt} {n k c : Nat} {xs : List D} {Q : DK} (e : st[n]? = some (.lst xs)) (sm : ∀ d ∈ xs, Sm k c d) (hk : k ≤ 40) (q : Q (.bl (!xs.isEmpty)) st) : dEqG true (.ref n) (.lst []) st Q := by
  obtain ⟨ps, e1, el, l⟩ := sm_all sm
  have p1 : pdS st (.ref n) = some (.list ps) := by unfold pdS; simp only [e, e1]; rfl
  have p2 : pdS st (.lst []) = some (.list []) := by simp [pdS, pdT, pdTs]
  show dEqD true (.ref n) (.lst []) st Q
  unfold dEqD
  rw [p1, p2]
  refine ⟨⟨Sm.shaped (el_list (m := ps.length) el (Nat.le_refl _)) (by omega), by decide +kernel⟩, ?_⟩
  have ee : PyData.eqv (.list ps) (.list []) = ps.isEmpty := by cases ps <;> simp [PyData.eqv, PyData.eqvAll]
  have e3 : ps.isEmpty = xs.isEmpty := by
    cases ps <;> cases xs <;> simp at l ⊢
  show Q (.bl (!PyData.eqv (.list ps) (.list []))) st
  rw [ee, e3]
  exact q
theorem take_outD {α : Type} : ∀ (l : List α) (i : Nat) (h : i < l.length), (l[i] :: l.eraseIdx i).Perm l
  | a :: l, 0, _ => List.Perm.refl _
  | a :: l, i + 1, h => by
    have z := take_outD l i (by simpa using h)
    exact (List.Perm.swap _ _ _).trans (List.Perm.cons a z)
theorem pop_ref {st : DSt} {n : Nat} {xs : List D} {i : Int} {Q : DK} (e : st[n]? = some (.lst xs)) (i0 : 0 ≤ i) (lt : i.toNat < xs.length) (few : xs.length ≤ 1000) (q : Q xs[i.toNat] (st.set n (.lst (xs.eraseIdx i.toNat)))) : mPopAt (.ref n) [.int i] st Q := by
  unfold mPopAt
  simp only [e_on1, e_onI, onL, e]
  refine ⟨⟨by omega, by omega⟩, ?_⟩
  have z : seqIndex? i xs.length = some i.toNat := seqIndex_of i0 (by omega)
  rw [z]
  show onO xs[i.toNat]? _
  rw [List.getElem?_eq_getElem lt]
  exact q
theorem append_ref {st : DSt} {n : Nat} {xs : List D} {y : D} {Q : DK} (e : st[n]? = some (.lst xs)) (lt : xs.length < sizeLine) (q : Q .non (st.set n (.lst (xs ++ [y])))) : mAppend (.ref n) [y] st Q := by
  unfold mAppend
  simp only [e_on1, onL, e]
  exact ⟨lt, q⟩
end DL
namespace DL
open PySem PySem.Spec PyProof.Rows L2 LamX PySem.W SL
theorem all_map_id {α : Type} (p : α → Bool) (xs : List α) : (xs.map p).all id = xs.all p := by rw [List.all_map]; rfl
theorem all_end {α : Type} {xs : List α} {p : α → Bool} {Q : DK} {st : DSt} (q : Q (.bl (xs.all p)) st) : finT (fun d st1 => dAllR (fun bs => bs.all id) [d] st1 Q) (xs.map fun x => D.bl (p x)) st := by
  simp only [e_finT, e_allR, boolsD_map, e_onO]
  rw [all_map_id]
  exact q
theorem tuple_end {Q : DK} {xs : List D} {st : DSt} (q : Q (.tup xs) st) : finT (fun d st1 => dTuple [d] st1 Q) xs st := q
def rowD (ns : List Int) : D := .tup (ns.map D.int)
def rowsD (nss : List (List Int)) : D := .tup (nss.map rowD)
@[simp] theorem flat_int (i : Int) : flatD (.int i) = true := rfl
theorem flat_row (ns : List Int) : (ns.map D.int).all flatD = true := by rw [List.all_eq_true]; intro d hd; obtain ⟨i, _, rfl⟩ := List.mem_map.mp hd; rfl
theorem any_row (ns : List Int) (a : Int) : ((ns.map D.int).any fun y => eqF y (.int a)) = decide (a ∈ ns) := by
  rw [List.any_map]
  induction ns with
  | nil => simp
  | cons n ns ih =>
    rw [List.any_cons, ih]
    show ((n == a) || decide (a ∈ ns)) = decide (a ∈ n :: ns)
    by_cases e : n = a
    · rw [e]; simp
    · have e' : ¬ a = n := fun z => e z.symm
      simp [e, e']
theorem row_in {a : Int} {ns : List Int} {st : DSt} {Q : DK} (q : Q (.bl (decide (a ∈ ns))) st) : dInG false (.int a) (rowD ns) st Q := by
  unfold rowD
  simp only [e_in, e_seqT, e_onO]
  refine ⟨⟨rfl, flat_row ns⟩, ?_⟩
  rw [any_row]
  exact q
theorem iteT' {c : Bool} {A B : Prop} (h : c = true) (a : A) : if c = true then A else B := by rw [if_pos h]; exact a
theorem iteF' {c : Bool} {A B : Prop} (h : c = false) (b : B) : if c = true then A else B := by rw [h]; exact iteF b
theorem at_map {α β : Type} {f : α → β} {xs : List α} {i : Nat} {x : α} (h : xs[i]? = some x) : atI (xs.map f) (i : Int) = some (f x) := atI_nat (by rw [List.getElem?_map, h]; rfl)
def dec (nss : List (List Int)) (a b : Nat) : Bool := if a = b then !decide ((a : Int) ∈ nss.getD a []) else (decide ((b : Int) ∈ nss.getD a []) != decide ((a : Int) ∈ nss.getD b []))
theorem getD_at {nss : List (List Int)} {a : Nat} (h : a < nss.length) : nss[a]? = some (nss.getD a []) := by
  rw [List.getD_eq_getElem?_getD, List.getElem?_eq_getElem h]
  rfl
theorem rows_at {nss : List (List Int)} {a : Nat} (h : a < nss.length) : atI (nss.map rowD) (a : Int) = some (rowD (nss.getD a [])) := at_map (getD_at h)
@[simp] theorem e_lc2 {f f1 : DTI} {g g1 : DTG} {tt tt1 : DTT} {te : DTE} {vs vs1 : List Nat} {fin : DK → List D → DSt → Prop} {r : DEnv} {st : DSt} {Q : DK} : dLc2G f g tt f1 g1 tt1 te vs vs1 fin r st Q = f r st fun I st1 => comp2 I g tt f1 g1 tt1 te (wipeD r vs) vs1 (fin Q) I.items [] st1 := rfl
structure Tb (n : Nat) (nss : List (List Int)) : Prop where
  len : nss.length = n
  asc : ∀ a : Nat, a < n → (nss.getD a []).Pairwise (· < ·)
  inr : ∀ a : Nat, a < n → ∀ x ∈ nss.getD a [], 0 ≤ x ∧ x < (n : Int)
  one : ∀ a b : Nat, a < n → b < n → dec nss a b = true
theorem Tb.row {n : Nat} {nss : List (List Int)} (t : Tb n nss) {ns : List Int} (h : ns ∈ nss) : ns.Pairwise (· < ·) ∧ ∀ x ∈ ns, 0 ≤ x ∧ x < (n : Int) := by
  obtain ⟨a, ha⟩ := List.mem_iff_getElem?.mp h
  have lt : a < n := by rw [← t.len]; exact (List.getElem?_eq_some_iff.mp ha).1
  have e : nss.getD a [] = ns := by rw [List.getD_eq_getElem?_getD, ha]; rfl
  rw [← e]
  exact ⟨t.asc a lt, t.inr a lt⟩
theorem asc_len {n : Nat} : ∀ {ns : List Int} {lo : Int}, ns.Pairwise (· < ·) → (∀ x ∈ ns, lo ≤ x ∧ x < (n : Int)) → (ns.length : Int) ≤ (n : Int) - lo ∨ ns = []
  | [], lo, _, _ => .inr rfl
  | a :: r, lo, h, hx => by
    have h1 := List.pairwise_cons.mp h
    have ha := hx a List.mem_cons_self
    rcases asc_len (lo := a + 1) h1.2 (fun x m => ⟨by have := h1.1 x m; omega, (hx x (List.mem_cons_of_mem _ m)).2⟩) with z | z
    · left; rw [List.length_cons]; omega
    · left; rw [z]; simp; omega
theorem Tb.few {n : Nat} {nss : List (List Int)} (t : Tb n nss) {ns : List Int} (h : ns ∈ nss) : ns.length ≤ n := by
  obtain ⟨a, b⟩ := t.row h
  rcases asc_len (lo := 0) a b with z | z
  · omega
  · rw [z]; simp
theorem all_end0 {ds : List D} {Q : DK} {st : DSt} (h : ∀ d ∈ ds, d = .bl true) (q : Q (.bl true) st) : finT (fun d st1 => dAllR (fun bs => bs.all id) [d] st1 Q) ds st := by
  have e : ds = (List.replicate ds.length true).map D.bl := by
    refine List.ext_getElem (by simp) fun i h1 h2 => ?_
    rw [h _ (List.getElem_mem h1)]
    simp
  rw [e]
  refine all_end (p := id) ?_
  rw [show (List.replicate ds.length true).all id = true by simp]
  exact q
def tabsD (ts : List (List (List Int))) : D := .tup (ts.map rowsD)
end DL
namespace DL
open PySem PySem.Spec PyProof.Rows L2 LamX PySem.W SL
def sortI (ns : List Int) : List Int := ns.mergeSort fun a b => decide (a ≤ b)
theorem sortI_perm (ns : List Int) : (sortI ns).Perm ns := List.mergeSort_perm _ _
theorem sortI_sorted (ns : List Int) : (sortI ns).Pairwise (· ≤ ·) := by
  have h := List.pairwise_mergeSort (le := fun a b : Int => decide (a ≤ b)) (fun a b c h1 h2 => by simp at h1 h2 ⊢; omega) (fun a b => by simp; omega) ns
  exact h.imp fun h => by simpa using h
theorem sorted_one : ∀ {xs ys : List Int}, xs.Perm ys → xs.Pairwise (· ≤ ·) → ys.Pairwise (· ≤ ·) → xs = ys
  | [], ys, p, _, _ => by rw [List.nil_perm.mp p]
  | x :: xs, [], p, _, _ => by have := p.length_eq; simp at this
  | x :: xs, y :: ys, p, h1, h2 => by
    have h1' := List.pairwise_cons.mp h1
    have h2' := List.pairwise_cons.mp h2
    have e : x = y := by
      rcases List.mem_cons.mp (p.mem_iff.mp List.mem_cons_self) with z | z
      · exact z
      · rcases List.mem_cons.mp (p.mem_iff.mpr (List.mem_cons_self (a := y) (l := ys))) with w | w
        · exact w.symm
        · have := h2'.1 x z
          have := h1'.1 y w
          omega
    subst e
    rw [sorted_one (List.Perm.cons_inv p) h1'.2 h2'.2]
theorem asc_one : ∀ {xs ys : List Int}, xs.Pairwise (· < ·) → ys.Pairwise (· < ·) → (∀ a, a ∈ xs ↔ a ∈ ys) → xs = ys
  | [], [], _, _, _ => rfl
  | [], y :: ys, _, _, h => by have := (h y).mpr List.mem_cons_self; cases this
  | x :: xs, [], _, _, h => by have := (h x).mp List.mem_cons_self; cases this
  | x :: xs, y :: ys, h1, h2, h => by
    have h1' := List.pairwise_cons.mp h1
    have h2' := List.pairwise_cons.mp h2
    have e : x = y := by
      rcases List.mem_cons.mp ((h x).mp List.mem_cons_self) with z | z
      · exact z
      · rcases List.mem_cons.mp ((h y).mpr List.mem_cons_self) with w | w
        · exact w.symm
        · have := h2'.1 x z
          have := h1'.1 y w
          omega
    subst e
    rw [asc_one h1'.2 h2'.2 fun a => ?_]
    constructor
    · intro ha
      rcases List.mem_cons.mp ((h a).mp (List.mem_cons_of_mem _ ha)) with z | z
      · have := h1'.1 a ha; omega
      · exact z
    · intro ha
      rcases List.mem_cons.mp ((h a).mpr (List.mem_cons_of_mem _ ha)) with z | z
      · have := h2'.1 a ha; omega
      · exact z
theorem sort_ev {fin : DK → List D → DSt → Prop} {x : D} {st : DSt} {ns : List Int} {Q : DK} (e : seqS st x = some (ns.map D.int)) (few : ns.length ≤ 100000) (q : fin Q ((sortI ns).map D.int) st) : dSortI fin [x] st Q := by
  unfold dSortI
  simp only [e_on1, e, e_onO, intsD_ints]
  refine ⟨few, fun out p s => ?_⟩
  rw [sorted_one (p.trans (sortI_perm ns).symm) s (sortI_sorted ns)]
  exact q
def R (n : Nat) : List Int := (List.range n).map fun i : Nat => (i : Int)
theorem R_mem {n : Nat} {x : Int} : x ∈ R n ↔ 0 ≤ x ∧ x < n := by
  unfold R
  rw [List.mem_map]
  constructor
  · rintro ⟨i, hi, rfl⟩
    have := List.mem_range.mp hi
    omega
  · rintro ⟨h0, h1⟩
    exact ⟨x.toNat, List.mem_range.mpr (by omega), by omega⟩
theorem R_nodup (n : Nat) : (R n).Nodup := by
  unfold R
  refine List.Pairwise.map _ (fun a b h => ?_) List.nodup_range
  omega
theorem R_length (n : Nat) : (R n).length = n := by unfold R; rw [List.length_map, List.length_range]
def pos (ns : List Int) (x : Int) : Nat := (ixOf x ns).getD 0
theorem pos_at {ns : List Int} {x : Int} (h : x ∈ ns) : ns[pos ns x]? = some x ∧ ixOf x ns = some (pos ns x) := by
  obtain ⟨j, e⟩ := ixOf_mem h
  unfold pos
  rw [e]
  exact ⟨(ixOf_spec e).1, rfl⟩
theorem nd_at {α : Type} {ns : List α} (nd : ns.Nodup) {i j : Nat} {x : α} (h1 : ns[i]? = some x) (h2 : ns[j]? = some x) : i = j := by
  obtain ⟨l1, q1⟩ := List.getElem?_eq_some_iff.mp h1
  obtain ⟨l2, q2⟩ := List.getElem?_eq_some_iff.mp h2
  exact (List.getElem_inj nd).mp (q1.trans q2.symm)
theorem mem_behind {ns : List Int} (nd : ns.Nodup) {x : Int} {i : Nat} : x ∈ ns.drop (i + 1) ↔ x ∈ ns ∧ i < pos ns x := by
  constructor
  · intro h
    have hx := List.mem_of_mem_drop h
    obtain ⟨j, hj⟩ := List.mem_iff_getElem?.mp h
    rw [List.getElem?_drop] at hj
    have := nd_at nd (pos_at hx).1 hj
    exact ⟨hx, by omega⟩
  · rintro ⟨hx, lt⟩
    refine List.mem_iff_getElem?.mpr ⟨pos ns x - (i + 1), ?_⟩
    rw [List.getElem?_drop, show i + 1 + (pos ns x - (i + 1)) = pos ns x by omega]
    exact (pos_at hx).1
theorem pos_inj {ns : List Int} {x y : Int} (hx : x ∈ ns) (hy : y ∈ ns) (e : pos ns x = pos ns y) : x = y := by
  have h1 := (pos_at hx).1
  rw [e, (pos_at hy).1] at h1
  exact (Option.some.inj h1).symm
def ordT (ns : List Int) : List (List Int) := (List.range ns.length).map fun k : Nat => sortI (ns.drop (pos ns (k : Int) + 1))
theorem ordT_length (ns : List Int) : (ordT ns).length = ns.length := by unfold ordT; rw [List.length_map, List.length_range]
theorem ordT_at {ns : List Int} {a : Nat} (h : a < ns.length) : (ordT ns).getD a [] = sortI (ns.drop (pos ns (a : Int) + 1)) := by
  unfold ordT
  rw [List.getD_eq_getElem?_getD, List.getElem?_map, List.getElem?_eq_getElem (by rw [List.length_range]; exact h), List.getElem_range]
  rfl
structure Ord (n : Nat) (ns : List Int) : Prop where
  perm : ns.Perm (R n)
theorem Ord.len {n : Nat} {ns : List Int} (o : Ord n ns) : ns.length = n := by rw [o.perm.length_eq, R_length]
theorem Ord.nd {n : Nat} {ns : List Int} (o : Ord n ns) : ns.Nodup := o.perm.nodup_iff.mpr (R_nodup n)
theorem Ord.mem {n : Nat} {ns : List Int} (o : Ord n ns) {x : Int} : x ∈ ns ↔ 0 ≤ x ∧ x < n := by rw [o.perm.mem_iff, R_mem]
theorem Ord.beats {n : Nat} {ns : List Int} (o : Ord n ns) {a : Nat} (h : a < n) {x : Int} : x ∈ (ordT ns).getD a [] ↔ (0 ≤ x ∧ x < n) ∧ pos ns a < pos ns x := by
  rw [ordT_at (by rw [o.len]; exact h), (sortI_perm _).mem_iff, mem_behind o.nd, o.mem]
theorem sort_asc {ns : List Int} (nd : ns.Nodup) : (sortI ns).Pairwise (· < ·) := by
  have h1 := sortI_sorted ns
  have h2 : (sortI ns).Nodup := (sortI_perm ns).nodup_iff.mpr nd
  have h3 := h1.and h2
  exact h3.imp fun h => by have := h.1; have := h.2; omega
theorem Ord.tb {n : Nat} {ns : List Int} (o : Ord n ns) : Tb n (ordT ns) := by
  refine ⟨by rw [ordT_length, o.len], fun a ha => ?_, fun a ha x hx => ?_, fun a b ha hb => ?_⟩
  · rw [ordT_at (by rw [o.len]; exact ha)]
    exact sort_asc (List.Nodup.sublist (List.drop_sublist _ _) o.nd)
  · exact ((o.beats ha).mp hx).1
  · unfold dec
    by_cases e : a = b
    · rw [if_pos e]
      have z : ¬ (a : Int) ∈ (ordT ns).getD a [] := fun h => by
        have := ((o.beats ha).mp h).2
        omega
      rw [decide_eq_false z]
      rfl
    · rw [if_neg e]
      have ma : (a : Int) ∈ ns := o.mem.mpr (by omega)
      have mb : (b : Int) ∈ ns := o.mem.mpr (by omega)
      have ne : pos ns a ≠ pos ns b := fun z => by
        have := pos_inj ma mb z
        omega
      rcases Nat.lt_or_gt_of_ne ne with z | z
      · have h1 : (b : Int) ∈ (ordT ns).getD a [] := (o.beats ha).mpr ⟨by omega, z⟩
        have h2 : ¬ (a : Int) ∈ (ordT ns).getD b [] := fun h => by have := ((o.beats hb).mp h).2; omega
        rw [decide_eq_true h1, decide_eq_false h2]
        rfl
      · have h1 : ¬ (b : Int) ∈ (ordT ns).getD a [] := fun h => by have := ((o.beats ha).mp h).2; omega
        have h2 : (a : Int) ∈ (ordT ns).getD b [] := (o.beats hb).mpr ⟨by omega, z⟩
        rw [decide_eq_false h1, decide_eq_true h2]
        rfl
theorem cutN (xs : List D) (k : Nat) : cutD xs (some (k : Int)) none = xs.drop k := by
  unfold cutD
  have z : HT.sIx xs.length 0 (some (k : Int)) = min k xs.length := HT.sIx_nat xs.length 0 k
  rw [z, HT.sIx_none]
  by_cases h : k ≤ xs.length
  · rw [Nat.min_eq_left h]
    exact List.take_of_length_le (by rw [List.length_drop]; omega)
  · rw [Nat.min_eq_right (by omega), List.drop_length, List.drop_eq_nil_of_le (by omega)]
    simp
def g_ruleOf : DRs := fun ds st Q => ∃ (n : Nat) (os : List (List Int)), ds = [rowsD os] ∧ (∀ ns ∈ os, Ord n ns) ∧ n ≤ 60 ∧ os.length ≤ 60 ∧ Q (tabsD (os.map ordT)) st
theorem ar_ruleOf (ds : List D) (st : DSt) (Q : DK) (h : g_ruleOf ds st Q) : ds.length = 1 := by
  obtain ⟨_, _, rfl, _⟩ := h
  rfl
end DL
namespace DL
open PySem PySem.Spec PyProof.Rows L2 LamX PySem.W SL
def Ring (t : List (List Int)) (a b c : Int) : Prop := 0 ≤ a ∧ a < t.length ∧ b ∈ t.getD a.toNat [] ∧ c ∈ t.getD b.toNat [] ∧ a ∈ t.getD c.toNat []
def noRing (t : List (List Int)) : Bool := (List.range t.length).all fun a => (t.getD a []).all fun b => (t.getD b.toNat []).all fun c => !decide ((a : Int) ∈ t.getD c.toNat [])
theorem noRing_iff {t : List (List Int)} : noRing t = true ↔ ∀ a b c, ¬ Ring t a b c := by
  unfold noRing
  simp only [List.all_eq_true, List.mem_range, Bool.not_eq_true', decide_eq_false_iff_not]
  constructor
  · rintro h a b c ⟨a0, a1, hb, hc, ha⟩
    refine h a.toNat (by omega) b hb c hc ?_
    rw [Int.toNat_of_nonneg a0]
    exact ha
  · intro h a la b hb c hc ha
    exact h a b c ⟨by omega, by omega, by simpa using hb, hc, ha⟩
def g_ring : DRs := fun ds st Q => ∃ (n : Nat) (ts : List (List (List Int))) (i : Nat) (t : List (List Int)), ds = [tabsD ts, .int i] ∧ ts[i]? = some t ∧ Tb n t ∧ n ≤ 60 ∧ (noRing t = true → Q .non st) ∧ ∀ a b c, Ring t a b c → Q (.tup [.int a, .int b, .int c]) st
theorem ar_ring (ds : List D) (st : DSt) (Q : DK) (h : g_ring ds st Q) : ds.length = 2 := by
  obtain ⟨_, _, _, _, rfl, _⟩ := h
  rfl
theorem Tb.at_ {n : Nat} {t : List (List Int)} (tb : Tb n t) {x : Int} (h0 : 0 ≤ x) (h1 : x < n) : atI (t.map rowD) x = some (rowD (t.getD x.toNat [])) := by
  have z := rows_at (nss := t) (a := x.toNat) (by rw [tb.len]; omega)
  rw [Int.toNat_of_nonneg h0] at z
  exact z
theorem Tb.mem {n : Nat} {t : List (List Int)} (tb : Tb n t) {x y : Int} (h0 : 0 ≤ x) (h1 : x < n) (h : y ∈ t.getD x.toNat []) : 0 ≤ y ∧ y < n := tb.inr x.toNat (by omega) y h
theorem sem_ring (ds : List D) (st : DSt) (Q : DK) (h : g_ring ds st Q) : F_ring_at { nx := fun _ st' => Rt st Q .non st', rt := Rt st Q } (startD 6 ds) st := by
  obtain ⟨n, ts, i, t, rfl, hi, tb, n60, q0, q1⟩ := h
  have st6 : startD 6 [tabsD ts, D.int (i : Nat)] = [some (.tup (ts.map rowsD)), some (.int i), none, none, none, none] := rfl
  have at_ : atI (ts.map rowsD) (i : Int) = some (rowsD t) := at_map hi
  simp only [F_ring_at, st6, e_var, e_C, e_op, e_neg, e_isN, e_notN, e_and, e_or, e_not, e_test, e_tAnd, e_tOr, e_tNot, e_tYes, e_if, e_aNil, e_aCons, e_tup, e_lst, e_lstN, e_len0, e_len1, e_len2, e_len3, e_len4, e_len5, e_cb, e_on1, e_on2, e_onI, e_onB, e_onO, e_onO0, e_onOO, e_I0, e_I, e_add, e_addT, e_addS, e_addL, e_addLR, e_addRL, e_addRR, e_mul, e_mulL, e_mulT, e_rev, e_revT, e_ix, e_eqI, e_eqS, e_eqB, e_neI, e_neS, e_neB, e_ltI, e_chain, e_len, e_abs, e_2I, e_tuple1, e_tuple2, e_tuple3, e_listT, e_listN, e_allR, e_seqT, e_seqK, e_seqL, e_isi, e_isB, e_notB, e_truth, e_next, e_seq, e_drop, e_ret, e_retN, e_ifS, e_set, e_asg, e_par, e_nm, e_gsN, e_gsC, e_gTpK, e_gTpL, e_sum, e_maxL, e_minL, e_maxDef, e_int, e_intB, e_aug, e_on3, e_par3, e_newK, e_getK, e_keyI, e_keyS, e_inK, e_ninK, e_putK, e_lenK, e_lstS, e_seqX, e_gTpT, e_oN, e_oS, e_sl, e_slT, e_slL, e_finT, e_finN, e_index, e_idxT, e_idxL, e_mIx, e_ixST, e_ixSL, e_mtL, e_w, e_w1, e_w2, e_wE, e_wZ, e_itK, e_itT, e_itL, e_itT2, e_itL2, e_lc, e_for, e_wipe0, e_wipe, e_okI, e_okR, e_gSb, List.getElem?_cons_zero, List.getElem?_cons_succ, List.set_cons_zero, List.set_cons_succ, at_]
  unfold rowsD
  simp only [e_var, e_C, e_op, e_neg, e_isN, e_notN, e_and, e_or, e_not, e_test, e_tAnd, e_tOr, e_tNot, e_tYes, e_if, e_aNil, e_aCons, e_tup, e_lst, e_lstN, e_len0, e_len1, e_len2, e_len3, e_len4, e_len5, e_cb, e_on1, e_on2, e_onI, e_onB, e_onO, e_onO0, e_onOO, e_I0, e_I, e_add, e_addT, e_addS, e_addL, e_addLR, e_addRL, e_addRR, e_mul, e_mulL, e_mulT, e_rev, e_revT, e_ix, e_eqI, e_eqS, e_eqB, e_neI, e_neS, e_neB, e_ltI, e_chain, e_len, e_abs, e_2I, e_tuple1, e_tuple2, e_tuple3, e_listT, e_listN, e_allR, e_seqT, e_seqK, e_seqL, e_isi, e_isB, e_notB, e_truth, e_next, e_seq, e_drop, e_ret, e_retN, e_ifS, e_set, e_asg, e_par, e_nm, e_gsN, e_gsC, e_gTpK, e_gTpL, e_sum, e_maxL, e_minL, e_maxDef, e_int, e_intB, e_aug, e_on3, e_par3, e_newK, e_getK, e_keyI, e_keyS, e_inK, e_ninK, e_putK, e_lenK, e_lstS, e_seqX, e_gTpT, e_oN, e_oS, e_sl, e_slT, e_slL, e_finT, e_finN, e_index, e_idxT, e_idxL, e_mIx, e_ixST, e_ixSL, e_mtL, e_w, e_w1, e_w2, e_wE, e_wZ, e_itK, e_itT, e_itL, e_itT2, e_itL2, e_lc, e_for, e_wipe0, e_wipe, e_okI, e_okR, e_gSb, List.getElem?_cons_zero, List.getElem?_cons_succ, List.set_cons_zero, List.set_cons_succ, List.length_map, tb.len, Int.toNat_natCast]
  refine ⟨⟨by omega, by omega⟩, ?_⟩
  refine for_inv (fun ds r st' => ∃ (k : Nat) (x3 x4 x5 : Option D), ds = (rgD 0 n).drop k ∧ r = [some (.tup (ts.map rowsD)), some (.int i), some (.tup (t.map rowD)), x3, x4, x5] ∧ st = st' ∧ ∀ a b c, a < (k : Int) → ¬ Ring t a b c) ?_ ?_ _ _ _ ⟨0, _, _, _, rfl, rfl, rfl, fun a b c lt h => by have := h.1; omega⟩
  · rintro d ds r st' N hN ⟨k, x3, x4, x5, e, rfl, rfl, no⟩
    obtain ⟨ek, lk, e2⟩ := drop_cons e.symm
    obtain ⟨lt, rfl⟩ := rgD_get ek
    have tr := tb.at_ (x := (0 : Int) + (k : Nat)) (by omega) (by omega)
    simp only [e_var, e_C, e_op, e_neg, e_isN, e_notN, e_and, e_or, e_not, e_test, e_tAnd, e_tOr, e_tNot, e_tYes, e_if, e_aNil, e_aCons, e_tup, e_lst, e_lstN, e_len0, e_len1, e_len2, e_len3, e_len4, e_len5, e_cb, e_on1, e_on2, e_onI, e_onB, e_onO, e_onO0, e_onOO, e_I0, e_I, e_add, e_addT, e_addS, e_addL, e_addLR, e_addRL, e_addRR, e_mul, e_mulL, e_mulT, e_rev, e_revT, e_ix, e_eqI, e_eqS, e_eqB, e_neI, e_neS, e_neB, e_ltI, e_chain, e_len, e_abs, e_2I, e_tuple1, e_tuple2, e_tuple3, e_listT, e_listN, e_allR, e_seqT, e_seqK, e_seqL, e_isi, e_isB, e_notB, e_truth, e_next, e_seq, e_drop, e_ret, e_retN, e_ifS, e_set, e_asg, e_par, e_nm, e_gsN, e_gsC, e_gTpK, e_gTpL, e_sum, e_maxL, e_minL, e_maxDef, e_int, e_intB, e_aug, e_on3, e_par3, e_newK, e_getK, e_keyI, e_keyS, e_inK, e_ninK, e_putK, e_lenK, e_lstS, e_seqX, e_gTpT, e_oN, e_oS, e_sl, e_slT, e_slL, e_finT, e_finN, e_index, e_idxT, e_idxL, e_mIx, e_ixST, e_ixSL, e_mtL, e_w, e_w1, e_w2, e_wE, e_wZ, e_itK, e_itT, e_itL, e_itT2, e_itL2, e_lc, e_for, e_wipe0, e_wipe, e_okI, e_okR, e_gSb, List.getElem?_cons_zero, List.getElem?_cons_succ, List.set_cons_zero, List.set_cons_succ, tr]
    unfold rowD
    simp only [e_var, e_C, e_op, e_neg, e_isN, e_notN, e_and, e_or, e_not, e_test, e_tAnd, e_tOr, e_tNot, e_tYes, e_if, e_aNil, e_aCons, e_tup, e_lst, e_lstN, e_len0, e_len1, e_len2, e_len3, e_len4, e_len5, e_cb, e_on1, e_on2, e_onI, e_onB, e_onO, e_onO0, e_onOO, e_I0, e_I, e_add, e_addT, e_addS, e_addL, e_addLR, e_addRL, e_addRR, e_mul, e_mulL, e_mulT, e_rev, e_revT, e_ix, e_eqI, e_eqS, e_eqB, e_neI, e_neS, e_neB, e_ltI, e_chain, e_len, e_abs, e_2I, e_tuple1, e_tuple2, e_tuple3, e_listT, e_listN, e_allR, e_seqT, e_seqK, e_seqL, e_isi, e_isB, e_notB, e_truth, e_next, e_seq, e_drop, e_ret, e_retN, e_ifS, e_set, e_asg, e_par, e_nm, e_gsN, e_gsC, e_gTpK, e_gTpL, e_sum, e_maxL, e_minL, e_maxDef, e_int, e_intB, e_aug, e_on3, e_par3, e_newK, e_getK, e_keyI, e_keyS, e_inK, e_ninK, e_putK, e_lenK, e_lstS, e_seqX, e_gTpT, e_oN, e_oS, e_sl, e_slT, e_slL, e_finT, e_finN, e_index, e_idxT, e_idxL, e_mIx, e_ixST, e_ixSL, e_mtL, e_w, e_w1, e_w2, e_wE, e_wZ, e_itK, e_itT, e_itL, e_itT2, e_itL2, e_lc, e_for, e_wipe0, e_wipe, e_okI, e_okR, e_gSb, List.getElem?_cons_zero, List.getElem?_cons_succ, List.set_cons_zero, List.set_cons_succ]
    refine for_inv (fun ds r st' => ∃ (m : List Int) (x4 x5 : Option D), ds = m.map D.int ∧ (∀ x ∈ m, x ∈ t.getD k []) ∧ r = [some (.tup (ts.map rowsD)), some (.int i), some (.tup (t.map rowD)), some (.int (0 + (k : Nat))), x4, x5] ∧ st = st' ∧ ∀ b c, b ∈ t.getD k [] → b ∉ m → ¬ Ring t k b c) ?_ ?_ _ _ _ ⟨_, _, _, rfl, fun x hx => by simpa using hx, rfl, rfl, fun b c hb nb => absurd (by simpa using hb) nb⟩
    · rintro d ds r st' N2 hN2 ⟨m, x4, x5, e, sub, rfl, rfl, no2⟩
      cases m with
      | nil => cases e
      | cons b m =>
        cases e
        have hb := sub b List.mem_cons_self
        have rb := tb.inr k lt b hb
        have trb := tb.at_ (x := b) rb.1 rb.2
        simp only [e_var, e_C, e_op, e_neg, e_isN, e_notN, e_and, e_or, e_not, e_test, e_tAnd, e_tOr, e_tNot, e_tYes, e_if, e_aNil, e_aCons, e_tup, e_lst, e_lstN, e_len0, e_len1, e_len2, e_len3, e_len4, e_len5, e_cb, e_on1, e_on2, e_onI, e_onB, e_onO, e_onO0, e_onOO, e_I0, e_I, e_add, e_addT, e_addS, e_addL, e_addLR, e_addRL, e_addRR, e_mul, e_mulL, e_mulT, e_rev, e_revT, e_ix, e_eqI, e_eqS, e_eqB, e_neI, e_neS, e_neB, e_ltI, e_chain, e_len, e_abs, e_2I, e_tuple1, e_tuple2, e_tuple3, e_listT, e_listN, e_allR, e_seqT, e_seqK, e_seqL, e_isi, e_isB, e_notB, e_truth, e_next, e_seq, e_drop, e_ret, e_retN, e_ifS, e_set, e_asg, e_par, e_nm, e_gsN, e_gsC, e_gTpK, e_gTpL, e_sum, e_maxL, e_minL, e_maxDef, e_int, e_intB, e_aug, e_on3, e_par3, e_newK, e_getK, e_keyI, e_keyS, e_inK, e_ninK, e_putK, e_lenK, e_lstS, e_seqX, e_gTpT, e_oN, e_oS, e_sl, e_slT, e_slL, e_finT, e_finN, e_index, e_idxT, e_idxL, e_mIx, e_ixST, e_ixSL, e_mtL, e_w, e_w1, e_w2, e_wE, e_wZ, e_itK, e_itT, e_itL, e_itT2, e_itL2, e_lc, e_for, e_wipe0, e_wipe, e_okI, e_okR, e_gSb, List.getElem?_cons_zero, List.getElem?_cons_succ, List.set_cons_zero, List.set_cons_succ, trb]
        unfold rowD
        simp only [e_var, e_C, e_op, e_neg, e_isN, e_notN, e_and, e_or, e_not, e_test, e_tAnd, e_tOr, e_tNot, e_tYes, e_if, e_aNil, e_aCons, e_tup, e_lst, e_lstN, e_len0, e_len1, e_len2, e_len3, e_len4, e_len5, e_cb, e_on1, e_on2, e_onI, e_onB, e_onO, e_onO0, e_onOO, e_I0, e_I, e_add, e_addT, e_addS, e_addL, e_addLR, e_addRL, e_addRR, e_mul, e_mulL, e_mulT, e_rev, e_revT, e_ix, e_eqI, e_eqS, e_eqB, e_neI, e_neS, e_neB, e_ltI, e_chain, e_len, e_abs, e_2I, e_tuple1, e_tuple2, e_tuple3, e_listT, e_listN, e_allR, e_seqT, e_seqK, e_seqL, e_isi, e_isB, e_notB, e_truth, e_next, e_seq, e_drop, e_ret, e_retN, e_ifS, e_set, e_asg, e_par, e_nm, e_gsN, e_gsC, e_gTpK, e_gTpL, e_sum, e_maxL, e_minL, e_maxDef, e_int, e_intB, e_aug, e_on3, e_par3, e_newK, e_getK, e_keyI, e_keyS, e_inK, e_ninK, e_putK, e_lenK, e_lstS, e_seqX, e_gTpT, e_oN, e_oS, e_sl, e_slT, e_slL, e_finT, e_finN, e_index, e_idxT, e_idxL, e_mIx, e_ixST, e_ixSL, e_mtL, e_w, e_w1, e_w2, e_wE, e_wZ, e_itK, e_itT, e_itL, e_itT2, e_itL2, e_lc, e_for, e_wipe0, e_wipe, e_okI, e_okR, e_gSb, List.getElem?_cons_zero, List.getElem?_cons_succ, List.set_cons_zero, List.set_cons_succ]
        refine for_inv (fun ds r st' => ∃ (m2 : List Int) (x5 : Option D), ds = m2.map D.int ∧ (∀ x ∈ m2, x ∈ t.getD b.toNat []) ∧ r = [some (.tup (ts.map rowsD)), some (.int i), some (.tup (t.map rowD)), some (.int (0 + (k : Nat))), some (.int b), x5] ∧ st = st' ∧ ∀ c, c ∈ t.getD b.toNat [] → c ∉ m2 → ¬ Ring t k b c) ?_ ?_ _ _ _ ⟨_, _, rfl, fun x hx => hx, rfl, rfl, fun c hc nc => absurd hc nc⟩
        · rintro d ds r st' N3 hN3 ⟨m2, x5, e, sub2, rfl, rfl, no3⟩
          cases m2 with
          | nil => cases e
          | cons c m2 =>
            cases e
            have hc := sub2 c List.mem_cons_self
            have rc := tb.mem rb.1 rb.2 hc
            have trc := tb.at_ (x := c) rc.1 rc.2
            simp only [e_var, e_C, e_op, e_neg, e_isN, e_notN, e_and, e_or, e_not, e_test, e_tAnd, e_tOr, e_tNot, e_tYes, e_if, e_aNil, e_aCons, e_tup, e_lst, e_lstN, e_len0, e_len1, e_len2, e_len3, e_len4, e_len5, e_cb, e_on1, e_on2, e_onI, e_onB, e_onO, e_onO0, e_onOO, e_I0, e_I, e_add, e_addT, e_addS, e_addL, e_addLR, e_addRL, e_addRR, e_mul, e_mulL, e_mulT, e_rev, e_revT, e_ix, e_eqI, e_eqS, e_eqB, e_neI, e_neS, e_neB, e_ltI, e_chain, e_len, e_abs, e_2I, e_tuple1, e_tuple2, e_tuple3, e_listT, e_listN, e_allR, e_seqT, e_seqK, e_seqL, e_isi, e_isB, e_notB, e_truth, e_next, e_seq, e_drop, e_ret, e_retN, e_ifS, e_set, e_asg, e_par, e_nm, e_gsN, e_gsC, e_gTpK, e_gTpL, e_sum, e_maxL, e_minL, e_maxDef, e_int, e_intB, e_aug, e_on3, e_par3, e_newK, e_getK, e_keyI, e_keyS, e_inK, e_ninK, e_putK, e_lenK, e_lstS, e_seqX, e_gTpT, e_oN, e_oS, e_sl, e_slT, e_slL, e_finT, e_finN, e_index, e_idxT, e_idxL, e_mIx, e_ixST, e_ixSL, e_mtL, e_w, e_w1, e_w2, e_wE, e_wZ, e_itK, e_itT, e_itL, e_itT2, e_itL2, e_lc, e_for, e_wipe0, e_wipe, e_okI, e_okR, e_gSb, List.getElem?_cons_zero, List.getElem?_cons_succ, List.set_cons_zero, List.set_cons_succ, trc]
            refine row_in ?_
            simp only [e_var, e_C, e_op, e_neg, e_isN, e_notN, e_and, e_or, e_not, e_test, e_tAnd, e_tOr, e_tNot, e_tYes, e_if, e_aNil, e_aCons, e_tup, e_lst, e_lstN, e_len0, e_len1, e_len2, e_len3, e_len4, e_len5, e_cb, e_on1, e_on2, e_onI, e_onB, e_onO, e_onO0, e_onOO, e_I0, e_I, e_add, e_addT, e_addS, e_addL, e_addLR, e_addRL, e_addRR, e_mul, e_mulL, e_mulT, e_rev, e_revT, e_ix, e_eqI, e_eqS, e_eqB, e_neI, e_neS, e_neB, e_ltI, e_chain, e_len, e_abs, e_2I, e_tuple1, e_tuple2, e_tuple3, e_listT, e_listN, e_allR, e_seqT, e_seqK, e_seqL, e_isi, e_isB, e_notB, e_truth, e_next, e_seq, e_drop, e_ret, e_retN, e_ifS, e_set, e_asg, e_par, e_nm, e_gsN, e_gsC, e_gTpK, e_gTpL, e_sum, e_maxL, e_minL, e_maxDef, e_int, e_intB, e_aug, e_on3, e_par3, e_newK, e_getK, e_keyI, e_keyS, e_inK, e_ninK, e_putK, e_lenK, e_lstS, e_seqX, e_gTpT, e_oN, e_oS, e_sl, e_slT, e_slL, e_finT, e_finN, e_index, e_idxT, e_idxL, e_mIx, e_ixST, e_ixSL, e_mtL, e_w, e_w1, e_w2, e_wE, e_wZ, e_itK, e_itT, e_itL, e_itT2, e_itL2, e_lc, e_for, e_wipe0, e_wipe, e_okI, e_okR, e_gSb, List.getElem?_cons_zero, List.getElem?_cons_succ, List.set_cons_zero, List.set_cons_succ]
            by_cases hr : (0 + (k : Nat) : Int) ∈ t.getD c.toNat []
            · refine iteT' (decide_eq_true hr) (.inl (q1 _ _ _ ⟨by omega, by rw [tb.len]; omega, ?_, hc, hr⟩))
              rw [Int.zero_add, Int.toNat_natCast]
              exact hb
            · refine iteF' (decide_eq_false hr) (hN3 _ _ (.inl ⟨m2, _, rfl, fun x hx => sub2 x (List.mem_cons_of_mem _ hx), rfl, rfl, fun c' hc' nc' => ?_⟩))
              by_cases z : c' = c
              · rintro ⟨_, _, _, _, h5⟩
                rw [z] at h5
                exact hr (by rw [Int.zero_add]; exact h5)
              · exact no3 c' hc' (fun h => by
                  rcases List.mem_cons.mp h with w | w
                  · exact z w
                  · exact nc' w)
        · rintro r st' ⟨m2, x5, e, sub2, rfl, rfl, no3⟩
          have e0 : m2 = [] := by cases m2 with | nil => rfl | cons _ _ => cases e
          subst e0
          simp only [e_var, e_C, e_op, e_neg, e_isN, e_notN, e_and, e_or, e_not, e_test, e_tAnd, e_tOr, e_tNot, e_tYes, e_if, e_aNil, e_aCons, e_tup, e_lst, e_lstN, e_len0, e_len1, e_len2, e_len3, e_len4, e_len5, e_cb, e_on1, e_on2, e_onI, e_onB, e_onO, e_onO0, e_onOO, e_I0, e_I, e_add, e_addT, e_addS, e_addL, e_addLR, e_addRL, e_addRR, e_mul, e_mulL, e_mulT, e_rev, e_revT, e_ix, e_eqI, e_eqS, e_eqB, e_neI, e_neS, e_neB, e_ltI, e_chain, e_len, e_abs, e_2I, e_tuple1, e_tuple2, e_tuple3, e_listT, e_listN, e_allR, e_seqT, e_seqK, e_seqL, e_isi, e_isB, e_notB, e_truth, e_next, e_seq, e_drop, e_ret, e_retN, e_ifS, e_set, e_asg, e_par, e_nm, e_gsN, e_gsC, e_gTpK, e_gTpL, e_sum, e_maxL, e_minL, e_maxDef, e_int, e_intB, e_aug, e_on3, e_par3, e_newK, e_getK, e_keyI, e_keyS, e_inK, e_ninK, e_putK, e_lenK, e_lstS, e_seqX, e_gTpT, e_oN, e_oS, e_sl, e_slT, e_slL, e_finT, e_finN, e_index, e_idxT, e_idxL, e_mIx, e_ixST, e_ixSL, e_mtL, e_w, e_w1, e_w2, e_wE, e_wZ, e_itK, e_itT, e_itL, e_itT2, e_itL2, e_lc, e_for, e_wipe0, e_wipe, e_okI, e_okR, e_gSb, List.getElem?_cons_zero, List.getElem?_cons_succ, List.set_cons_zero, List.set_cons_succ]
          refine hN2 _ _ (.inl ⟨m, _, _, rfl, fun x hx => sub x (List.mem_cons_of_mem _ hx), rfl, rfl, fun b' c hb' nb' => ?_⟩)
          by_cases z : b' = b
          · intro h
            have h4 := h.2.2.2.1
            rw [z] at h h4
            exact no3 c h4 (by simp) h
          · exact no2 b' c hb' (fun h => by
              rcases List.mem_cons.mp h with w | w
              · exact z w
              · exact nb' w)
    · rintro r st' ⟨m, x4, x5, e, sub, rfl, rfl, no2⟩
      have e0 : m = [] := by cases m with | nil => rfl | cons _ _ => cases e
      subst e0
      simp only [e_var, e_C, e_op, e_neg, e_isN, e_notN, e_and, e_or, e_not, e_test, e_tAnd, e_tOr, e_tNot, e_tYes, e_if, e_aNil, e_aCons, e_tup, e_lst, e_lstN, e_len0, e_len1, e_len2, e_len3, e_len4, e_len5, e_cb, e_on1, e_on2, e_onI, e_onB, e_onO, e_onO0, e_onOO, e_I0, e_I, e_add, e_addT, e_addS, e_addL, e_addLR, e_addRL, e_addRR, e_mul, e_mulL, e_mulT, e_rev, e_revT, e_ix, e_eqI, e_eqS, e_eqB, e_neI, e_neS, e_neB, e_ltI, e_chain, e_len, e_abs, e_2I, e_tuple1, e_tuple2, e_tuple3, e_listT, e_listN, e_allR, e_seqT, e_seqK, e_seqL, e_isi, e_isB, e_notB, e_truth, e_next, e_seq, e_drop, e_ret, e_retN, e_ifS, e_set, e_asg, e_par, e_nm, e_gsN, e_gsC, e_gTpK, e_gTpL, e_sum, e_maxL, e_minL, e_maxDef, e_int, e_intB, e_aug, e_on3, e_par3, e_newK, e_getK, e_keyI, e_keyS, e_inK, e_ninK, e_putK, e_lenK, e_lstS, e_seqX, e_gTpT, e_oN, e_oS, e_sl, e_slT, e_slL, e_finT, e_finN, e_index, e_idxT, e_idxL, e_mIx, e_ixST, e_ixSL, e_mtL, e_w, e_w1, e_w2, e_wE, e_wZ, e_itK, e_itT, e_itL, e_itT2, e_itL2, e_lc, e_for, e_wipe0, e_wipe, e_okI, e_okR, e_gSb, List.getElem?_cons_zero, List.getElem?_cons_succ, List.set_cons_zero, List.set_cons_succ]
      refine hN _ _ (.inl ⟨k + 1, _, _, _, e2.symm, rfl, rfl, fun a b c la h => ?_⟩)
      by_cases z : a = k
      · subst z
        have h3 := h.2.2.1
        rw [Int.toNat_natCast] at h3
        exact no2 b c h3 (by simp) h
      · exact no a b c (by omega) h
  · rintro r st' ⟨k, x3, x4, x5, e, rfl, rfl, no⟩
    have lk : n ≤ k := by
      have := List.drop_eq_nil_iff.mp e.symm
      rw [rgD_length] at this
      exact this
    simp only [e_var, e_C, e_op, e_neg, e_isN, e_notN, e_and, e_or, e_not, e_test, e_tAnd, e_tOr, e_tNot, e_tYes, e_if, e_aNil, e_aCons, e_tup, e_lst, e_lstN, e_len0, e_len1, e_len2, e_len3, e_len4, e_len5, e_cb, e_on1, e_on2, e_onI, e_onB, e_onO, e_onO0, e_onOO, e_I0, e_I, e_add, e_addT, e_addS, e_addL, e_addLR, e_addRL, e_addRR, e_mul, e_mulL, e_mulT, e_rev, e_revT, e_ix, e_eqI, e_eqS, e_eqB, e_neI, e_neS, e_neB, e_ltI, e_chain, e_len, e_abs, e_2I, e_tuple1, e_tuple2, e_tuple3, e_listT, e_listN, e_allR, e_seqT, e_seqK, e_seqL, e_isi, e_isB, e_notB, e_truth, e_next, e_seq, e_drop, e_ret, e_retN, e_ifS, e_set, e_asg, e_par, e_nm, e_gsN, e_gsC, e_gTpK, e_gTpL, e_sum, e_maxL, e_minL, e_maxDef, e_int, e_intB, e_aug, e_on3, e_par3, e_newK, e_getK, e_keyI, e_keyS, e_inK, e_ninK, e_putK, e_lenK, e_lstS, e_seqX, e_gTpT, e_oN, e_oS, e_sl, e_slT, e_slL, e_finT, e_finN, e_index, e_idxT, e_idxL, e_mIx, e_ixST, e_ixSL, e_mtL, e_w, e_w1, e_w2, e_wE, e_wZ, e_itK, e_itT, e_itL, e_itT2, e_itL2, e_lc, e_for, e_wipe0, e_wipe, e_okI, e_okR, e_gSb, List.getElem?_cons_zero, List.getElem?_cons_succ, List.set_cons_zero, List.set_cons_succ]
    refine .inl (q0 (noRing_iff.mpr fun a b c h => no a b c ?_ h))
    have := h.2.1
    rw [tb.len] at this
    omega
theorem Ord.noRing {n : Nat} {ns : List Int} (o : Ord n ns) : DL.noRing (ordT ns) = true := by
  refine noRing_iff.mpr fun a b c h => ?_
  obtain ⟨a0, a1, hb, hc, ha⟩ := h
  rw [ordT_length, o.len] at a1
  have b1 := (o.beats (a := a.toNat) (by omega)).mp hb
  have c1 := (o.beats (a := b.toNat) (by omega)).mp hc
  have d1 := (o.beats (a := c.toNat) (by omega)).mp ha
  rw [Int.toNat_of_nonneg a0] at b1
  rw [Int.toNat_of_nonneg b1.1.1] at c1
  rw [Int.toNat_of_nonneg c1.1.1] at d1
  omega
end DL
namespace DL
open PySem PySem.Spec PyProof.Rows L2 LamX PySem.W SL
def ixP (ps : List (List Int)) (s : Int) (k : Nat) : Nat := pos (ps.getD k []) s
def Far (ps : List (List Int)) (s : Int) (a b : Nat) : Prop := ixP ps s b < ixP ps s a ∨ (ixP ps s a = ixP ps s b ∧ a < b)
theorem rg_ints (n : Nat) : rgD 0 n = (R n).map D.int := by
  rw [rgD0]
  unfold R
  rw [List.map_map]
  rfl
end DL
namespace DL
open PySem PySem.Spec PyProof.Rows L2 LamX PySem.W SL
def Beats (t : List (List Int)) (a b : Nat) : Prop := (b : Int) ∈ t.getD a []
theorem Tb.dec2 {n : Nat} {t : List (List Int)} (tb : Tb n t) {a b : Nat} (ha : a < n) (hb : b < n) (ne : a ≠ b) : Beats t a b ↔ ¬ Beats t b a := by
  have z := tb.one a b ha hb
  unfold dec at z
  rw [if_neg ne] at z
  unfold Beats
  by_cases h1 : (b : Int) ∈ t.getD a []
  · by_cases h2 : (a : Int) ∈ t.getD b []
    · rw [decide_eq_true h1, decide_eq_true h2] at z; cases z
    · exact ⟨fun _ => h2, fun _ => h1⟩
  · by_cases h2 : (a : Int) ∈ t.getD b []
    · exact ⟨fun w => absurd w h1, fun w => absurd h2 w⟩
    · rw [decide_eq_false h1, decide_eq_false h2] at z; cases z
theorem Tb.irr {n : Nat} {t : List (List Int)} (tb : Tb n t) {a : Nat} (ha : a < n) : ¬ Beats t a a := by
  have z := tb.one a a ha ha
  unfold dec at z
  rw [if_pos rfl] at z
  unfold Beats
  simpa using z
theorem Tb.trans {n : Nat} {t : List (List Int)} (tb : Tb n t) (no : noRing t = true) {a b c : Nat} (ha : a < n) (hb : b < n) (hc : c < n) (h1 : Beats t a b) (h2 : Beats t b c) : Beats t a c := by
  by_cases e : a = c
  · subst e
    have ne : a ≠ b := fun z => by subst z; exact tb.irr ha h1
    exact absurd h2 ((tb.dec2 ha hb ne).mp h1)
  · refine (tb.dec2 ha hc e).mpr fun h3 => noRing_iff.mp no a b c ⟨by omega, by rw [tb.len]; omega, ?_, ?_, ?_⟩
    · rw [Int.toNat_natCast]; exact h1
    · rw [Int.toNat_natCast]; exact h2
    · rw [Int.toNat_natCast]; exact h3
theorem sub_len {xs ys : List Int} (hx : xs.Nodup) (h : ∀ x ∈ xs, x ∈ ys) : xs.length ≤ ys.length := by
  induction xs generalizing ys with
  | nil => simp
  | cons a r ih =>
    have ha := h a List.mem_cons_self
    have z := ih (ys := ys.erase a) (List.nodup_cons.mp hx).2 fun x hx' => by
      have ne : x ≠ a := fun e => (List.nodup_cons.mp hx).1 (e ▸ hx')
      exact (List.mem_erase_of_ne ne).mpr (h x (List.mem_cons_of_mem _ hx'))
    rw [List.length_erase_of_mem ha] at z
    have := List.length_pos_of_mem ha
    rw [List.length_cons]
    omega
theorem asc_nodup {xs : List Int} (h : xs.Pairwise (· < ·)) : xs.Nodup := h.imp fun h => by omega
theorem Tb.more {n : Nat} {t : List (List Int)} (tb : Tb n t) (no : noRing t = true) {a b : Nat} (ha : a < n) (hb : b < n) (h : Beats t a b) : (t.getD b []).length < (t.getD a []).length := by
  have nb : (b : Int) ∉ t.getD b [] := tb.irr hb
  have z := sub_len (xs := (b : Int) :: t.getD b []) (ys := t.getD a []) (List.nodup_cons.mpr ⟨nb, asc_nodup (tb.asc b hb)⟩) fun x hx => by
    rcases List.mem_cons.mp hx with e | e
    · rw [e]; exact h
    · have r := tb.inr b hb x e
      have w := tb.trans no ha hb (c := x.toNat) (by omega) h (by unfold Beats; rw [Int.toNat_of_nonneg r.1]; exact e)
      unfold Beats at w
      rw [Int.toNat_of_nonneg r.1] at w
      exact w
  rw [List.length_cons] at z
  omega
def ordN (t : List (List Int)) : List Nat := (List.range t.length).mergeSort fun a b => decide (-((t.getD a []).length : Int) ≤ -((t.getD b []).length : Int))
def ordOf (t : List (List Int)) : List Int := (ordN t).map fun i : Nat => (i : Int)
theorem ordOf_ord {n : Nat} {t : List (List Int)} (l : t.length = n) : Ord n (ordOf t) := by
  refine ⟨?_⟩
  unfold ordOf R
  rw [← l]
  exact (List.mergeSort_perm _ _).map _
theorem ordOf_pos {n : Nat} {t : List (List Int)} (tb : Tb n t) (no : noRing t = true) {a b : Nat} (ha : a < n) (hb : b < n) (ne : a ≠ b) : pos (ordOf t) a < pos (ordOf t) b ↔ Beats t a b := by
  have o := ordOf_ord tb.len
  have ma : (a : Int) ∈ ordOf t := o.mem.mpr (by omega)
  have mb : (b : Int) ∈ ordOf t := o.mem.mpr (by omega)
  have pw : (ordN t).Pairwise fun a b => decide (-((t.getD a []).length : Int) ≤ -((t.getD b []).length : Int)) = true := by
    refine List.pairwise_mergeSort (fun a b c h1 h2 => ?_) (fun a b => ?_) _
    · simp only [decide_eq_true_eq] at h1 h2 ⊢
      omega
    · simp only [Bool.or_eq_true, decide_eq_true_eq]
      omega
  have up : ∀ x y : Nat, (x : Int) ∈ ordOf t → (y : Int) ∈ ordOf t → pos (ordOf t) x < pos (ordOf t) y → (t.getD y []).length ≤ (t.getD x []).length := by
    intro x y hx hy lt
    have px := (pos_at hx).1
    have py := (pos_at hy).1
    unfold ordOf at px py
    rw [List.getElem?_map] at px py
    cases ex : (ordN t)[pos (ordOf t) x]? with
    | none => unfold ordOf at ex; rw [ex] at px; cases px
    | some u =>
      cases ey : (ordN t)[pos (ordOf t) y]? with
      | none => unfold ordOf at ey; rw [ey] at py; cases py
      | some v =>
        have ex' := ex
        have ey' := ey
        unfold ordOf at ex ey
        rw [ex] at px
        rw [ey] at py
        have e1 : u = x := by
          have h : (u : Int) = x := Option.some.inj px
          omega
        have e2 : v = y := by
          have h : (v : Int) = y := Option.some.inj py
          omega
        subst e1
        subst e2
        obtain ⟨l1, q1⟩ := List.getElem?_eq_some_iff.mp ex'
        obtain ⟨l2, q2⟩ := List.getElem?_eq_some_iff.mp ey'
        have z := List.pairwise_iff_getElem.mp pw _ _ l1 l2 lt
        rw [q1, q2] at z
        simp only [decide_eq_true_eq] at z
        omega
  constructor
  · intro lt
    have z := up a b ma mb lt
    refine (tb.dec2 ha hb ne).mpr fun h => ?_
    have := tb.more no hb ha h
    omega
  · intro h
    have m := tb.more no ha hb h
    rcases Nat.lt_trichotomy (pos (ordOf t) a) (pos (ordOf t) b) with z | z | z
    · exact z
    · have := pos_inj ma mb z
      omega
    · have := up b a mb ma z
      omega
theorem Tb.ordT {n : Nat} {t : List (List Int)} (tb : Tb n t) (no : noRing t = true) : t = DL.ordT (ordOf t) := by
  have o := ordOf_ord tb.len
  refine List.ext_getElem (by rw [ordT_length, o.len, tb.len]) fun a h1 h2 => ?_
  have ha : a < n := by rw [← tb.len]; exact h1
  have e1 : t[a] = t.getD a [] := by rw [List.getD_eq_getElem?_getD, List.getElem?_eq_getElem h1]; rfl
  have e2 : (DL.ordT (ordOf t))[a] = (DL.ordT (ordOf t)).getD a [] := by rw [List.getD_eq_getElem?_getD, List.getElem?_eq_getElem h2]; rfl
  rw [e1, e2]
  refine asc_one (tb.asc a ha) (o.tb.asc a ha) fun x => ?_
  rw [o.beats ha]
  constructor
  · intro hx
    have r := tb.inr a ha x hx
    have e : ((x.toNat : Nat) : Int) = x := Int.toNat_of_nonneg r.1
    refine ⟨r, ?_⟩
    rw [← e] at hx ⊢
    have ne : a ≠ x.toNat := fun z => by
      rw [← z] at hx
      exact tb.irr ha hx
    exact (ordOf_pos tb no ha (by omega) ne).mpr hx
  · rintro ⟨r, lt⟩
    have e : ((x.toNat : Nat) : Int) = x := Int.toNat_of_nonneg r.1
    rw [← e] at lt ⊢
    have ne : a ≠ x.toNat := fun z => by
      rw [← z] at lt
      omega
    exact (ordOf_pos tb no ha (by omega) ne).mp lt
theorem ord_one {n : Nat} {xs ys : List Int} (o1 : Ord n xs) (o2 : Ord n ys) (h : ∀ a b : Nat, a < n → b < n → pos xs a < pos xs b → pos ys a < pos ys b) : xs = ys := by
  have gen : ∀ (zs ws : List Int), zs.Perm ws → zs.Pairwise (fun a b => pos ys a < pos ys b) → ws.Pairwise (fun a b => pos ys a < pos ys b) → zs = ws := by
    intro zs
    induction zs with
    | nil => intro ws p _ _; rw [List.nil_perm.mp p]
    | cons z zs ih =>
      intro ws p h1 h2
      cases ws with
      | nil => have := p.length_eq; simp at this
      | cons w ws =>
        have h1' := List.pairwise_cons.mp h1
        have h2' := List.pairwise_cons.mp h2
        have e : z = w := by
          rcases List.mem_cons.mp (p.mem_iff.mp List.mem_cons_self) with q | q
          · exact q
          · rcases List.mem_cons.mp (p.mem_iff.mpr (List.mem_cons_self (a := w) (l := ws))) with r | r
            · exact r.symm
            · have := h2'.1 z q
              have := h1'.1 w r
              omega
        subst e
        rw [ih ws (List.Perm.cons_inv p) h1'.2 h2'.2]
  have at_ : ∀ (zs : List Int), Ord n zs → ∀ (i : Nat) (l : i < zs.length), ∃ a : Nat, zs[i] = (a : Int) ∧ a < n ∧ pos zs a = i := fun zs o i l => by
    have m := o.mem.mp (List.getElem_mem l)
    refine ⟨zs[i].toNat, by omega, by omega, ?_⟩
    rw [Int.toNat_of_nonneg m.1]
    exact nd_at o.nd (pos_at (List.getElem_mem l)).1 (List.getElem?_eq_getElem l)
  refine gen xs ys (o1.perm.trans o2.perm.symm) ?_ ?_
  · refine List.pairwise_iff_getElem.mpr fun i j li lj lt => ?_
    obtain ⟨a, ea, la, pa⟩ := at_ xs o1 i li
    obtain ⟨b, eb, lb, pb⟩ := at_ xs o1 j lj
    rw [ea, eb]
    exact h a b la lb (by omega)
  · refine List.pairwise_iff_getElem.mpr fun i j li lj lt => ?_
    obtain ⟨a, ea, la, pa⟩ := at_ ys o2 i li
    obtain ⟨b, eb, lb, pb⟩ := at_ ys o2 j lj
    rw [ea, eb]
    omega
end DL
namespace DL
open PySem PySem.Spec PyProof.Rows L2 LamX PySem.W SL
def At (sl : List Int) (s k : Nat) : Prop := sl[s]? = some (k : Int)
structure Lay (m n : Nat) (sl : List Int) : Prop where
  len : sl.length = n
  rng : ∀ x ∈ sl, -1 ≤ x ∧ x < m
  inj : ∀ s t k, At sl s k → At sl t k → s = t
theorem At.one {sl : List Int} {s j k : Nat} (h : At sl s j) (q : At sl s k) : j = k := by
  unfold At at h q
  rw [h] at q
  have := Option.some.inj q
  omega
theorem At.lt {sl : List Int} {s k : Nat} (h : At sl s k) : s < sl.length := (List.getElem?_eq_some_iff.mp h).1
theorem Lay.key {m n : Nat} {sl : List Int} (L : Lay m n sl) {s k : Nat} (h : At sl s k) : k < m ∧ s < n := by
  have := L.rng _ (List.mem_of_getElem? h)
  have := h.lt
  have := L.len
  omega
theorem Lay.either {m n : Nat} {sl : List Int} (L : Lay m n sl) {s : Nat} (h : s < n) : sl[s]? = some (-1) ∨ ∃ k, At sl s k := by
  have lt : s < sl.length := by rw [L.len]; exact h
  have e := List.getElem?_eq_getElem lt
  have r := L.rng _ (List.getElem_mem lt)
  by_cases z : sl[s] = -1
  · left; rw [e, z]
  · right
    refine ⟨sl[s].toNat, ?_⟩
    unfold At
    rw [e]
    congr 1
    omega
theorem At.ne {sl : List Int} {s k : Nat} (h : At sl s k) : sl[s]? ≠ some (-1) := by
  unfold At at h
  rw [h]
  intro z
  have := Option.some.inj z
  omega
theorem at_set {sl : List Int} {s t a k : Nat} (h : s < sl.length) : At (sl.set s (a : Int)) t k ↔ (t = s ∧ k = a) ∨ (t ≠ s ∧ At sl t k) := by
  unfold At
  by_cases e : t = s
  · subst e
    rw [List.getElem?_set_self h]
    constructor
    · intro z
      have := Option.some.inj z
      exact .inl ⟨rfl, by omega⟩
    · rintro (⟨_, z⟩ | ⟨z, _⟩)
      · rw [z]
      · exact absurd rfl z
  · rw [List.getElem?_set_ne (fun z => e z.symm)]
    constructor
    · exact fun z => .inr ⟨e, z⟩
    · rintro (⟨z, _⟩ | ⟨_, z⟩)
      · exact absurd z e
      · exact z
theorem Lay.set {m n : Nat} {sl : List Int} (L : Lay m n sl) {s a : Nat} (hs : s < n) (ha : a < m) (fr : ∀ t, ¬ At sl t a) : Lay m n (sl.set s (a : Int)) := by
  have ls : s < sl.length := by rw [L.len]; exact hs
  refine ⟨by rw [List.length_set]; exact L.len, fun x hx => ?_, fun u t k h1 h2 => ?_⟩
  · rcases List.mem_or_eq_of_mem_set hx with z | z
    · exact L.rng x z
    · omega
  · rcases (at_set ls).mp h1 with ⟨e1, e2⟩ | ⟨n1, q1⟩ <;> rcases (at_set ls).mp h2 with ⟨e3, e4⟩ | ⟨n2, q2⟩
    · omega
    · subst e2; exact absurd q2 (fr t)
    · subst e4; exact absurd q1 (fr u)
    · exact L.inj _ _ _ q1 q2
structure Setg (m n : Nat) (P : List (List Int)) (R : List (List (List Int))) : Prop where
  pl : P.length = m
  po : ∀ o ∈ P, Ord n o
  rl : R.length = n
  rt : ∀ t ∈ R, Tb m t
def pr (P : List (List Int)) (a i : Nat) : Nat := ((P.getD a []).getD i 0).toNat
def rk (P : List (List Int)) (a s : Nat) : Nat := pos (P.getD a []) (s : Int)
def bt (R : List (List (List Int))) (s a b : Nat) : Bool := decide ((b : Int) ∈ (R.getD s []).getD a [])
section
variable {m n : Nat} {P : List (List Int)} {R : List (List (List Int))}
theorem getD_memL {α : Type} {l : List α} {i : Nat} {d : α} (h : i < l.length) : l.getD i d ∈ l := by
  rw [List.getD_eq_getElem?_getD, List.getElem?_eq_getElem h]
  exact List.getElem_mem h
theorem Setg.ord (S : Setg m n P R) {a : Nat} (h : a < m) : Ord n (P.getD a []) := S.po _ (getD_memL (by rw [S.pl]; exact h))
theorem Setg.tb (S : Setg m n P R) {s : Nat} (h : s < n) : Tb m (R.getD s []) := S.rt _ (getD_memL (by rw [S.rl]; exact h))
theorem Setg.pr_at (S : Setg m n P R) {a i : Nat} (ha : a < m) (hi : i < n) : (P.getD a [])[i]? = some (pr P a i : Int) ∧ pr P a i < n := by
  have o := S.ord ha
  have li : i < (P.getD a []).length := by rw [o.len]; exact hi
  have e := List.getElem?_eq_getElem li
  have r := o.mem.mp (List.getElem_mem li)
  unfold pr
  rw [List.getD_eq_getElem?_getD (l := P.getD a []), e]
  exact ⟨by congr 1; show _ = (((P.getD a [])[i].toNat : Nat) : Int); omega, by show (P.getD a [])[i].toNat < n; omega⟩
theorem Setg.rk_at (S : Setg m n P R) {a s : Nat} (ha : a < m) (hs : s < n) : (P.getD a [])[rk P a s]? = some (s : Int) ∧ rk P a s < n ∧ ixOf (s : Int) (P.getD a []) = some (rk P a s) := by
  have o := S.ord ha
  have h := pos_at (ns := P.getD a []) (x := (s : Int)) (o.mem.mpr (by omega))
  have l := (List.getElem?_eq_some_iff.mp h.1).1
  rw [o.len] at l
  exact ⟨h.1, l, h.2⟩
theorem Setg.rk_pr (S : Setg m n P R) {a i : Nat} (ha : a < m) (hi : i < n) : rk P a (pr P a i) = i := by
  obtain ⟨e, l⟩ := S.pr_at ha hi
  exact nd_at (S.ord ha).nd (S.rk_at ha l).1 e
theorem Setg.pr_rk (S : Setg m n P R) {a s : Nat} (ha : a < m) (hs : s < n) : pr P a (rk P a s) = s := by
  obtain ⟨e, l, _⟩ := S.rk_at ha hs
  have z := (S.pr_at ha l).1
  rw [e] at z
  have := Option.some.inj z
  omega
theorem Setg.rk_inj (S : Setg m n P R) {a s t : Nat} (ha : a < m) (hs : s < n) (ht : t < n) (e : rk P a s = rk P a t) : s = t := by
  rw [← S.pr_rk ha hs, e, S.pr_rk ha ht]
theorem Setg.bt_not (S : Setg m n P R) {s a b : Nat} (hs : s < n) (ha : a < m) (hb : b < m) (ne : a ≠ b) : bt R s a b = !bt R s b a := by
  have z := (S.tb hs).dec2 ha hb ne
  unfold Beats at z
  unfold bt
  by_cases h : (a : Int) ∈ (R.getD s []).getD b []
  · rw [decide_eq_true h, decide_eq_false fun q => z.mp q h]; rfl
  · rw [decide_eq_false h, decide_eq_true (z.mpr h)]; rfl
def Ahead (P : List (List Int)) (sl : List Int) : Prop := ∀ s k, At sl s k → ∀ j, j < rk P k s → ∃ k', At sl (pr P k j) k'
structure Good (m n : Nat) (P : List (List Int)) (sl : List Int) : Prop where
  lay : Lay m n sl
  ah : Ahead P sl
structure Go (m n : Nat) (P : List (List Int)) (sl : List Int) (a i : Nat) : Prop where
  g : Good m n P sl
  ha : a < m
  hi : i < n
  fr : ∀ t, ¬ At sl t a
  ask : ∀ j, j < i → ∃ k', At sl (pr P a j) k'
  room : ∃ t, t < n ∧ sl[t]? = some (-1)
theorem next_lt (S : Setg m n P R) {sl : List Int} {a i : Nat} (ha : a < m) (hi : i < n) (ask : ∀ j, j < i → ∃ k', At sl (pr P a j) k') (room : ∃ t, t < n ∧ sl[t]? = some (-1)) {k : Nat} (tk : At sl (pr P a i) k) : i + 1 < n := by
  obtain ⟨t, lt, e⟩ := room
  have l := (S.rk_at ha lt).2.1
  have p := S.pr_rk ha lt
  rcases Nat.lt_trichotomy (rk P a t) i with q | q | q
  · obtain ⟨k', h⟩ := ask _ q
    rw [p] at h
    exact absurd e h.ne
  · rw [← q, p] at tk
    exact absurd e tk.ne
  · omega
theorem Go.on (S : Setg m n P R) {sl : List Int} {a i k : Nat} (G : Go m n P sl a i) (tk : At sl (pr P a i) k) : Go m n P sl a (i + 1) := by
  refine ⟨G.g, G.ha, next_lt S G.ha G.hi G.ask G.room tk, G.fr, fun j lj => ?_, G.room⟩
  rcases Nat.lt_or_ge j i with q | q
  · exact G.ask j q
  · rw [show j = i by omega]; exact ⟨k, tk⟩
theorem taken_set {sl : List Int} {s a : Nat} (h : s < sl.length) {t k : Nat} (tk : At sl t k) : ∃ k', At (sl.set s (a : Int)) t k' := by
  by_cases e : t = s
  · exact ⟨a, (at_set h).mpr (.inl ⟨e, rfl⟩)⟩
  · exact ⟨k, (at_set h).mpr (.inr ⟨e, tk⟩)⟩
theorem Good.put (S : Setg m n P R) {sl : List Int} {a i : Nat} (g : Good m n P sl) (ha : a < m) (hi : i < n) (fr : ∀ t, ¬ At sl t a) (ask : ∀ j, j < i → ∃ k', At sl (pr P a j) k') : Good m n P (sl.set (pr P a i) (a : Int)) := by
  have ls := (S.pr_at ha hi).2
  have ls' : pr P a i < sl.length := by rw [g.lay.len]; exact ls
  refine ⟨g.lay.set ls ha fr, fun s k h j lj => ?_⟩
  rcases (at_set ls').mp h with ⟨e1, e2⟩ | ⟨e1, q⟩
  · subst e1
    subst e2
    rw [S.rk_pr ha hi] at lj
    obtain ⟨k', h'⟩ := ask j lj
    exact taken_set ls' h'
  · obtain ⟨k', h'⟩ := g.ah s k q j lj
    exact taken_set ls' h'
theorem Go.swap (S : Setg m n P R) {sl : List Int} {a i k : Nat} (G : Go m n P sl a i) (tk : At sl (pr P a i) k) : Go m n P (sl.set (pr P a i) (a : Int)) k (rk P k (pr P a i) + 1) := by
  have ls := (S.pr_at G.ha G.hi).2
  have ls' : pr P a i < sl.length := by rw [G.g.lay.len]; exact ls
  have hk := (G.g.lay.key tk).1
  have lr := (S.rk_at hk ls).2.1
  have pk := S.pr_rk hk ls
  have nx := next_lt S (sl := sl) hk lr (G.g.ah _ _ tk) G.room (k := k) (by rw [pk]; exact tk)
  refine ⟨G.g.put S G.ha G.hi G.fr G.ask, hk, nx, fun t h => ?_, fun j lj => ?_, ?_⟩
  · rcases (at_set ls').mp h with ⟨_, e2⟩ | ⟨ne, q⟩
    · subst e2; exact G.fr _ tk
    · exact ne (G.g.lay.inj _ _ _ q tk)
  · rcases Nat.lt_or_ge j (rk P k (pr P a i)) with q | q
    · obtain ⟨k', h'⟩ := G.g.ah _ _ tk j q
      exact taken_set ls' h'
    · rw [show j = rk P k (pr P a i) by omega, pk]
      exact taken_set ls' tk
  · obtain ⟨t, lt, e⟩ := G.room
    refine ⟨t, lt, ?_⟩
    have ne : t ≠ pr P a i := fun z => by rw [z] at e; exact tk.ne e
    rw [List.getElem?_set_ne (fun z => ne z.symm)]
    exact e
def insG (P : List (List Int)) (R : List (List (List Int))) : Nat → List Int → Nat → Nat → Option (List Int × List (Nat × Nat))
  | 0, _, _, _ => none
  | f + 1, sl, a, i => match sl.getD (pr P a i) (-1) with
    | Int.ofNat k => if bt R (pr P a i) a k = true then (insG P R f (sl.set (pr P a i) (a : Int)) k (rk P k (pr P a i) + 1)).map fun x => (x.1, (a, pr P a i) :: x.2) else insG P R f sl a (i + 1)
    | Int.negSucc _ => some (sl.set (pr P a i) (a : Int), [(a, pr P a i)])
theorem insG_free {f : Nat} {sl : List Int} {a i : Nat} (h : sl[pr P a i]? = some (-1)) : insG P R (f + 1) sl a i = some (sl.set (pr P a i) (a : Int), [(a, pr P a i)]) := by
  unfold insG
  rw [List.getD_eq_getElem?_getD, h]
  rfl
theorem insG_taken {f : Nat} {sl : List Int} {a i k : Nat} (h : At sl (pr P a i) k) : insG P R (f + 1) sl a i = if bt R (pr P a i) a k = true then (insG P R f (sl.set (pr P a i) (a : Int)) k (rk P k (pr P a i) + 1)).map fun x => (x.1, (a, pr P a i) :: x.2) else insG P R f sl a (i + 1) := by
  conv => lhs; unfold insG
  unfold At at h
  rw [List.getD_eq_getElem?_getD, h]
  rfl
def wt (P : List (List Int)) (n : Nat) (t : Nat) (x : Int) : Nat := if x < 0 then 0 else n - rk P x.toNat t
def pot (P : List (List Int)) (n : Nat) (sl : List Int) : Nat := ((List.range sl.length).map fun t => wt P n t (sl.getD t (-1))).sum
theorem sum_set_nat : ∀ (l : List Nat) (i x : Nat), i < l.length → (l.set i x).sum + l.getD i 0 = l.sum + x
  | y :: r, 0, x, _ => by simp; omega
  | y :: r, i + 1, x, h => by
    have z := sum_set_nat r i x (by simpa using h)
    simp at z ⊢
    omega
theorem pot_set {sl : List Int} {s : Nat} (h : s < sl.length) (x : Int) : pot P n (sl.set s x) + wt P n s (sl.getD s (-1)) = pot P n sl + wt P n s x := by
  unfold pot
  rw [List.length_set]
  have e : (List.range sl.length).map (fun t => wt P n t ((sl.set s x).getD t (-1))) = ((List.range sl.length).map fun t => wt P n t (sl.getD t (-1))).set s (wt P n s x) := by
    refine List.ext_getElem (by simp) fun i h1 h2 => ?_
    rw [List.getElem_set, List.getElem_map, List.getElem_range, List.getElem_map, List.getElem_range]
    by_cases q : s = i
    · subst q
      rw [if_pos rfl, List.getD_eq_getElem?_getD, List.getElem?_set_self h]
      rfl
    · rw [if_neg q, List.getD_eq_getElem?_getD, List.getElem?_set_ne q, ← List.getD_eq_getElem?_getD]
  rw [e]
  have z := sum_set_nat ((List.range sl.length).map fun t => wt P n t (sl.getD t (-1))) s (wt P n s x) (by simpa using h)
  have z2 : ((List.range sl.length).map fun t => wt P n t (sl.getD t (-1))).getD s 0 = wt P n s (sl.getD s (-1)) := by
    rw [List.getD_eq_getElem?_getD, List.getElem?_map, List.getElem?_eq_getElem (by simpa using h), List.getElem_range]
    rfl
  rw [z2] at z
  exact z
theorem insG_total (S : Setg m n P R) : ∀ (f : Nat) (sl : List Int) (a i : Nat), Go m n P sl a i → pot P n sl + (n - i) < f → ∃ r, insG P R f sl a i = some r
  | 0, sl, a, i, G, h => absurd h (Nat.not_lt_zero _)
  | f + 1, sl, a, i, G, h => by
    have hi := G.hi
    have ls := (S.pr_at G.ha G.hi).2
    have ls' : pr P a i < sl.length := by rw [G.g.lay.len]; exact ls
    rcases G.g.lay.either ls with e | ⟨k, tk⟩
    · exact ⟨_, insG_free e⟩
    · rw [insG_taken tk]
      by_cases b : bt R (pr P a i) a k = true
      · rw [if_pos b]
        have G2 := G.swap S tk
        have hk := (G.g.lay.key tk).1
        have lr := (S.rk_at hk ls).2.1
        have z := pot_set (P := P) (n := n) ls' (a : Int)
        have e1 : wt P n (pr P a i) (sl.getD (pr P a i) (-1)) = n - rk P k (pr P a i) := by
          unfold At at tk
          rw [List.getD_eq_getElem?_getD, tk]
          unfold wt
          rw [if_neg (by show ¬ (k : Int) < 0; omega)]
          rfl
        have e2 : wt P n (pr P a i) (a : Int) = n - i := by
          unfold wt
          rw [if_neg (by omega), Int.toNat_natCast, S.rk_pr G.ha G.hi]
        rw [e1, e2] at z
        obtain ⟨r, hr⟩ := insG_total S f _ _ _ G2 (by omega)
        rw [hr]
        exact ⟨_, rfl⟩
      · rw [if_neg b]
        exact insG_total S f _ _ _ (G.on S tk) (by omega)
theorem insG_good (S : Setg m n P R) : ∀ (f : Nat) (sl : List Int) (a i : Nat) (L : List Int) (p : List (Nat × Nat)), Go m n P sl a i → insG P R f sl a i = some (L, p) → Good m n P L ∧ (∀ k, (∃ s, At L s k) ↔ k = a ∨ ∃ s, At sl s k) ∧ ∀ x ∈ p, x.1 < m ∧ x.2 < n
  | 0, sl, a, i, L, p, G, h => by cases h
  | f + 1, sl, a, i, L, p, G, h => by
    have ls := (S.pr_at G.ha G.hi).2
    have ls' : pr P a i < sl.length := by rw [G.g.lay.len]; exact ls
    rcases G.g.lay.either ls with e | ⟨k, tk⟩
    · rw [insG_free e] at h
      cases h
      refine ⟨G.g.put S G.ha G.hi G.fr G.ask, fun k => ?_, fun x hx => ?_⟩
      · constructor
        · rintro ⟨s, hs⟩
          rcases (at_set ls').mp hs with ⟨_, z⟩ | ⟨_, z⟩
          · exact .inl z
          · exact .inr ⟨s, z⟩
        · rintro (rfl | ⟨s, hs⟩)
          · exact ⟨_, (at_set ls').mpr (.inl ⟨rfl, rfl⟩)⟩
          · refine ⟨s, (at_set ls').mpr (.inr ⟨fun z => ?_, hs⟩)⟩
            rw [z] at hs
            exact hs.ne e
      · rw [List.mem_singleton.mp hx]
        exact ⟨G.ha, ls⟩
    · rw [insG_taken tk] at h
      by_cases b : bt R (pr P a i) a k = true
      · rw [if_pos b] at h
        obtain ⟨⟨L2, p2⟩, h2, h3⟩ := Option.map_eq_some_iff.mp h
        cases h3
        obtain ⟨g, ks, pr_⟩ := insG_good S f _ _ _ _ p2 (G.swap S tk) h2
        refine ⟨g, fun j => ?_, fun x hx => ?_⟩
        · rw [ks]
          constructor
          · rintro (rfl | ⟨s, hs⟩)
            · exact .inr ⟨_, tk⟩
            · rcases (at_set ls').mp hs with ⟨_, z⟩ | ⟨_, z⟩
              · exact .inl z
              · exact .inr ⟨s, z⟩
          · rintro (rfl | ⟨s, hs⟩)
            · exact .inr ⟨_, (at_set ls').mpr (.inl ⟨rfl, rfl⟩)⟩
            · by_cases e : s = pr P a i
              · rw [e] at hs
                exact .inl (hs.one tk)
              · exact .inr ⟨s, (at_set ls').mpr (.inr ⟨e, hs⟩)⟩
        · rcases List.mem_cons.mp hx with z | z
          · rw [z]; exact ⟨G.ha, ls⟩
          · exact pr_ x z
      · rw [if_neg b] at h
        exact insG_good S f _ _ _ L p (G.on S tk) h
theorem insG_more : ∀ (f : Nat) (sl : List Int) (a i : Nat) (x : List Int × List (Nat × Nat)), insG P R f sl a i = some x → insG P R (f + 1) sl a i = some x
  | 0, _, _, _, _, h => by cases h
  | f + 1, sl, a, i, x, h => by
    unfold insG at h ⊢
    split at h
    · split at h
      · rename_i b
        obtain ⟨y, h1, h2⟩ := Option.map_eq_some_iff.mp h
        rw [if_pos b, insG_more f _ _ _ y h1]
        rw [← h2]
        rfl
      · rename_i b
        rw [if_neg b]
        exact insG_more f _ _ _ x h
    · exact h
theorem insG_up {f g : Nat} (le : f ≤ g) {sl : List Int} {a i : Nat} {x : List Int × List (Nat × Nat)} (h : insG P R f sl a i = some x) : insG P R g sl a i = some x := by
  induction le with
  | refl => exact h
  | step _ ih => exact insG_more _ _ _ _ _ ih
def ins (P : List (List Int)) (R : List (List (List Int))) (sl : List Int) (a : Nat) : List Int × List (Nat × Nat) := (insG P R (pot P R.length sl + R.length + 1) sl a 0).getD (sl, [])
theorem Go.start {sl : List Int} {a : Nat} (g : Good m n P sl) (ha : a < m) (fr : ∀ t, ¬ At sl t a) (room : ∃ t, t < n ∧ sl[t]? = some (-1)) : Go m n P sl a 0 := by
  have r := room
  obtain ⟨t, lt, _⟩ := r
  exact ⟨g, ha, by omega, fr, fun j lj => absurd lj (Nat.not_lt_zero _), room⟩
theorem ins_eq (S : Setg m n P R) {sl : List Int} {a : Nat} (G : Go m n P sl a 0) : insG P R (pot P R.length sl + R.length + 1) sl a 0 = some (ins P R sl a) := by
  obtain ⟨r, h⟩ := insG_total S (pot P R.length sl + R.length + 1) sl a 0 G (by rw [S.rl]; omega)
  unfold ins
  rw [h]
  rfl
theorem ins_of (S : Setg m n P R) {sl : List Int} {a f : Nat} {x : List Int × List (Nat × Nat)} (G : Go m n P sl a 0) (h : insG P R f sl a 0 = some x) : ins P R sl a = x := by
  have e := ins_eq S G
  rcases Nat.le_total f (pot P R.length sl + R.length + 1) with l | l
  · rw [insG_up l h] at e
    exact (Option.some.inj e).symm
  · have e2 := insG_up l e
    rw [h] at e2
    exact (Option.some.inj e2).symm
end
end DL
namespace DL
open PySem PySem.Spec PyProof.Rows L2 LamX PySem.W SL
def F_insert : DTS := (sSeq (sIf (dTest (dOp dIn (dVar 3) (dVar 2))) sNever sNext) (sSeq (sIf (dTest (dOp dNotIn (dC (.int (-1))) (dVar 2))) sNever sNext) (sSeq (sSet 4 (dCB dListN (daCons (dVar 2) daNil))) (sSeq (sSet 5 (dLstN daNil)) (sSeq (sSet 6 (dVar 3)) (sSeq (sSet 7 (dOp dIx (dOp dIx (dVar 0) (dVar 3)) (dC (.int 0)))) (sSeq (sWhile (dTest (dOp dNe (dOp dIx (dVar 4) (dVar 7)) (dC (.int (-1))))) (sSeq (sIf (dTest (dOp dNotIn (dVar 6) (dOp dIx (dOp dIx (dVar 1) (dVar 7)) (dOp dIx (dVar 4) (dVar 7))))) (sSeq (sDrop (dMtL mAppend (dVar 5) (daCons (dTup (daCons (dVar 6) (daCons (dVar 7) daNil))) daNil))) (sAsg (dTup (daCons (dOp dIx (dVar 4) (dVar 7)) (daCons (dVar 6) daNil))) (gTp 2 (gsCons (gNm 6) (gsCons (gSb (dVar 4) (dVar 7)) gsNil))))) sNext) (sSet 7 (dOp dIx (dOp dIx (dVar 0) (dVar 6)) (dOp dAdd (dIndex (dOp dIx (dVar 0) (dVar 6)) (daCons (dVar 7) daNil)) (dC (.int 1))))))) (sSeq (sAsg (dVar 6) (gSb (dVar 4) (dVar 7))) (sSeq (sDrop (dMtL mAppend (dVar 5) (daCons (dTup (daCons (dVar 6) (daCons (dVar 7) daNil))) daNil))) (sRet (dTup (daCons (dCB dTuple (daCons (dVar 4) daNil)) (daCons (dCB dTuple (daCons (dVar 5) daNil)) daNil)))))))))))))
def F_layout_of (g_insert : DRs) : DTS := (sSeq (sSet 3 (dOp dMul (dTup (daCons (dC (.int (-1))) daNil)) (dCB dLen (daCons (dVar 1) daNil)))) (sSeq (sFor (wSeq (dVar 2)) (gNm 4) (sSet 3 (dOp dIx (dCB g_insert (daCons (dVar 0) (daCons (dVar 1) (daCons (dVar 3) (daCons (dVar 4) daNil))))) (dC (.int 0))))) (sRet (dVar 3))))
def F__law_pot_of : DTS := (sSeq (sSet 2 (dIf (dTest (dOp dLtG (dVar 1) (dCB dLen (daCons (dVar 0) daNil)))) (dOp dIx (dVar 0) (dVar 1)) (dOp dAdd (dOp dMul (dC (.int 31)) (dVar 1)) (dC (.int 6))))) (sSeq (sSet 3 (dOp dMul (dOp dMod (dCB dAbs (daCons (dVar 2) daNil)) (dOp dPow (dOp dPow (dC (.int 10)) (dC (.int 60))) (dC (.int 5)))) (dCB dInt (daCons (dOp dGe (dCB dAbs (daCons (dVar 2) daNil)) (dOp dPow (dC (.int 10)) (dC (.int 18)))) daNil)))) (sRet (dLstN (daCons (dVar 3) (daCons (dOp dMod (dOp dAdd (dOp dAdd (dOp dMul (dOp dMod (dVar 2) (dC (.int 2305843009213693951))) (dC (.int 48271))) (dOp dMul (dOp dMul (dC (.int 7919)) (dVar 1)) (dVar 1))) (dC (.int 13))) (dC (.int 2305843009213693921))) (daCons (dC (.int 0)) daNil)))))))
def F__law_take_v3 : DTS := (sSeq (sIf (dTest (dOp dGt (dOp dIx (dVar 0) (dC (.int 0))) (dC (.int 0)))) (sSeq (sSet 2 (dOp dMod (dOp dIx (dVar 0) (dC (.int 0))) (dVar 1))) (sSeq (sAsg (dOp dDiv (dOp dIx (dVar 0) (dC (.int 0))) (dVar 1)) (gSb (dVar 0) (dC (.int 0)))) (sRet (dVar 2)))) sNext) (sSeq (sAsg (dOp dAdd (dOp dIx (dVar 0) (dC (.int 2))) (dC (.int 1))) (gSb (dVar 0) (dC (.int 2)))) (sSeq (sSet 3 (dOp dIx (dLst (daCons (dC (.int 2147483647)) (daCons (dC (.int 2147483629)) (daCons (dC (.int 2147483587)) (daCons (dC (.int 2147483579)) (daCons (dC (.int 2147483563)) daNil)))))) (dOp dMod (dOp dIx (dVar 0) (dC (.int 2))) (dC (.int 5))))) (sSeq (sSet 4 (dOp dMod (dOp dPow (dOp dAdd (dOp dAdd (dOp dIx (dVar 0) (dC (.int 1))) (dOp dMul (dOp dMul (dC (.int 65537)) (dOp dIx (dVar 0) (dC (.int 2)))) (dOp dIx (dVar 0) (dC (.int 2))))) (dC (.int 29))) (dC (.int 3))) (dVar 3))) (sRet (dOp dMod (dOp dDiv (dOp dMod (dOp dMul (dVar 4) (dOp dAdd (dOp dMod (dVar 4) (dC (.int 10007))) (dOp dMul (dC (.int 97)) (dOp dIx (dVar 0) (dC (.int 2)))))) (dC (.int 2305843009213693907))) (dC (.int 97))) (dVar 1)))))))
def F__law_shuffled (g__law_take : DRs) : DTS := (sSeq (sPar 2 3 (daCons (dCB dListN (daCons (dVar 1) daNil)) (daCons (dLstN daNil) daNil))) (sSeq (sWhile (dTest (dOp dNe (dVar 2) (dLst daNil))) (sDrop (dMtL mAppend (dVar 3) (daCons (dMtL mPopAt (dVar 2) (daCons (dCB g__law_take (daCons (dVar 0) (daCons (dCB dLen (daCons (dVar 2) daNil)) daNil))) daNil)) daNil)))) (sRet (dCB dTuple (daCons (dVar 3) daNil)))))
def F__law_drawn_probes (g__law_take : DRs) (g__law_shuffled : DRs) : DTS := (sSeq (sAsg (dTup (daCons (dCB g__law_take (daCons (dVar 0) (daCons (dC (.int 3)) daNil))) (daCons (dCB g__law_shuffled (daCons (dVar 0) (daCons (dLRg1 finT (dVar 2)) daNil))) (daCons (dLstN daNil) daNil)))) (gTp 3 (gsCons (gNm 3) (gsCons (gNm 4) (gsCons (gNm 5) gsNil))))) (sSeq (sFor (wRng1 (daCons (dVar 1) daNil)) (gNm 6) (sSeq (sSet 7 (dCB g__law_shuffled (daCons (dVar 0) (daCons (dLRg1 finT (dVar 2)) daNil)))) (sSeq (sIf (dTest (dOp dEq (dVar 3) (dC (.int 1)))) (sSeq (sSet 8 (dCB g__law_take (daCons (dVar 0) (daCons (dVar 2) daNil)))) (sSet 7 (dOp dAdd (dSlG finT (dVar 4) (oSome (dVar 8)) oNone) (dSlG finT (dVar 4) oNone (oSome (dVar 8)))))) sNext) (sSeq (sIf (dTest (dOp dEq (dVar 3) (dC (.int 2)))) (sSet 7 (dOp dAdd (dSlG finT (dVar 4) oNone (oSome (dC (.int 1)))) (dCB dTuple (daCons (dLcG (wSeq (dVar 7)) (gNm 9) (dTest (dOp dNe (dVar 9) (dOp dIx (dVar 4) (dC (.int 0))))) (dVar 9) [9] finT) daNil)))) sNext) (sDrop (dMtL mAppend (dVar 5) (daCons (dVar 7) daNil))))))) (sRet (dCB dTuple (daCons (dVar 5) daNil)))))
def F__law_drawn_orders (g__law_take : DRs) (g__law_shuffled : DRs) : DTS := (sSeq (sPar3 2 3 4 (daCons (dCB dLen (daCons (dOp dIx (dVar 1) (dC (.int 0))) daNil)) (daCons (dCB g__law_take (daCons (dVar 0) (daCons (dC (.int 3)) daNil))) (daCons (dLstN daNil) daNil)))) (sSeq (sFor (wRng1 (daCons (dVar 2) daNil)) (gNm 8) (sSeq (sSet 5 (dCB g__law_shuffled (daCons (dVar 0) (daCons (dLRg1 finT (dCB dLen (daCons (dVar 1) daNil))) daNil)))) (sSeq (sIf (dTest (dOp dGt (dVar 3) (dC (.int 0)))) (sSeq (sSet 5 (dCB dTuple (daCons (dSortS finT (dVar 5) (pTup2 (pNeg (pIndex (pIx (pVar 1) (pVar 9)) (pVar 8))) (pVar 9))) daNil))) (sSeq (sSet 6 (dCB g__law_take (daCons (dVar 0) (daCons (dCB dLen (daCons (dVar 5) daNil)) daNil)))) (sSeq (sSet 7 (dRev (dSlG finT (dVar 5) (oSome (dVar 6)) (oSome (dOp dAdd (dVar 6) (dVar 3)))))) (sSet 5 (dOp dAdd (dOp dAdd (dSlG finT (dVar 5) oNone (oSome (dVar 6))) (dVar 7)) (dSlG finT (dVar 5) (oSome (dOp dAdd (dVar 6) (dVar 3))) oNone)))))) sNext) (sDrop (dMtL mAppend (dVar 4) (daCons (dVar 5) daNil)))))) (sRet (dCB dTuple (daCons (dVar 4) daNil)))))
def F__law_rule_of : DTS := (sSeq (sSet 1 (dLstN daNil)) (sSeq (sFor (wSeq (dVar 0)) (gNm 2) (sDrop (dMtL mAppend (dVar 1) (daCons (dCB dTuple (daCons (dLcG (wRng1 (daCons (dCB dLen (daCons (dVar 2) daNil)) daNil)) (gNm 3) dtYes (dCB dTuple (daCons (dCB (dSortI finT) (daCons (dSlG finT (dVar 2) (oSome (dOp dAdd (dIndex (dVar 2) (daCons (dVar 3) daNil)) (dC (.int 1)))) oNone) daNil)) daNil)) [3] finT) daNil)) daNil)))) (sRet (dCB dTuple (daCons (dVar 1) daNil)))))
end DL
namespace DL
open PySem PySem.Spec PyProof.Rows L2 LamX PySem.W SL
def F__law_of (g__law_take : DRs) : DTS := (sRet (dOp dIx (dVar 1) (dCB g__law_take (daCons (dVar 0) (daCons (dCB dLen (daCons (dVar 1) daNil)) daNil)))))
end DL
namespace DL
open PySem PySem.Spec PyProof.Rows L2 LamX PySem.W SL
theorem sm_row {ns : List Int} {m : Nat} (h : ∀ x ∈ ns, -100 ≤ x ∧ x ≤ 1000) (l : ns.length ≤ m) : Sm 1 (m * 22 + 3) (rowD ns) := by
  unfold rowD
  refine sm_tup (k := 0) (c := 20) (fun d hd => ?_) (by rw [List.length_map]; exact l)
  obtain ⟨i, hi, rfl⟩ := List.mem_map.mp hd
  exact sm_int (h i hi).1 (h i hi).2
theorem sm_rows {nss : List (List Int)} {m k : Nat} (h : ∀ ns ∈ nss, (∀ x ∈ ns, -100 ≤ x ∧ x ≤ 1000) ∧ ns.length ≤ m) (l : nss.length ≤ k) : Sm 2 (k * ((m * 22 + 3) + 2) + 3) (rowsD nss) := by
  unfold rowsD
  refine sm_tup (k := 1) (fun d hd => ?_) (by rw [List.length_map]; exact l)
  obtain ⟨i, hi, rfl⟩ := List.mem_map.mp hd
  exact sm_row (h i hi).1 (h i hi).2
theorem Ord.sm {n : Nat} {ns : List Int} (o : Ord n ns) (h : n ≤ 16) : Sm 1 355 (rowD ns) := by
  have z := sm_row (ns := ns) (m := 16) (fun x hx => by have := o.mem.mp hx; omega) (by rw [o.len]; exact h)
  exact z
theorem Tb.sm {n : Nat} {t : List (List Int)} (o : Tb n t) (h : n ≤ 16) : Sm 2 5715 (rowsD t) := by
  have z := sm_rows (nss := t) (m := 16) (k := 16) (fun ns hn => ⟨fun x hx => by have := (o.row hn).2 x hx; omega, by have := o.few hn; omega⟩) (by rw [o.len]; exact h)
  exact z
end DL
namespace DL
open PySem PySem.Spec PyProof.Rows L2 LamX PySem.W SL
theorem set_same {st : DSt} {p : Nat} {o : O} (e : st[p]? = some o) : st.set p o = st := by
  refine List.ext_getElem? fun i => ?_
  by_cases w : i = p
  · subst w; rw [List.getElem?_set_self (List.getElem?_eq_some_iff.mp e).1, e]
  · rw [List.getElem?_set_ne (fun w' => w w'.symm)]
instance {ps : List (List Int)} {s : Int} {a b : Nat} : Decidable (Far ps s a b) := by unfold Far; infer_instance
end DL
namespace DL
open PySem PySem.Spec PyProof.Rows L2 LamX PySem.W SL
theorem compL_inv {te : DTE} {r : DEnv} {Q : List D → DSt → Prop} {xs : List D} {i : Nat} (K : Nat) (W : Nat → List D → DSt → Prop)
    (step : ∀ (k : Nat) (d : D) (acc : List D) (st : DSt) (N : DK), k < K → W k acc st → (∀ y st4, W (k + 1) (acc ++ [y]) st4 → N y st4) → te (r.set i (some d)) st N) (fin : ∀ acc st, W K acc st → Q acc st) :
    ∀ (items acc : List D) (k : Nat) (st : DSt), k + items.length = K → W k acc st → compL ⟨xs, none⟩ (gNm i) dtYes te r Q items acc st
  | [], acc, k, st, e, w => by
    have e' : k = K := e
    subst e'
    exact fin acc st w
  | d :: ds, acc, k, st, e, w => by
    rw [List.length_cons] at e
    show te (r.set i (some d)) st _
    exact step k d acc st _ (by omega) w fun y st4 w4 => compL_inv K W step fin ds _ (k + 1) st4 (by omega) w4
theorem mixed_ord {n : Nat} {ys : List D} (pm : ys.Perm (rgD 0 n)) : ∃ ns : List Int, ys = ns.map D.int ∧ Ord n ns := by
  rw [rg_ints] at pm
  have z : ∀ y ∈ ys, ∃ i : Int, y = .int i := fun y hy => by
    obtain ⟨i, _, rfl⟩ := List.mem_map.mp (pm.mem_iff.mp hy)
    exact ⟨i, rfl⟩
  refine ⟨ys.map fun d => match d with | .int i => i | _ => 0, ?_, ⟨?_⟩⟩
  · rw [List.map_map]
    refine (List.map_id ys).symm.trans (List.map_congr_left fun y hy => ?_)
    obtain ⟨i, rfl⟩ := z y hy
    rfl
  · have w := pm.map (fun d : D => match d with | .int i => i | _ => 0)
    rw [List.map_map] at w
    rw [show ((fun d : D => match d with | .int i => i | _ => 0) ∘ D.int) = id from rfl, List.map_id] at w
    exact w
end DL
namespace DL
open PySem PySem.Spec PyProof.Rows L2 LamX PySem.W SL
def g_law : DRs := fun ds st Q => ∃ (ns : List Int) (x : D), ds = [x] ∧ Scr ns x ∧ ns.length ≤ 63 ∧ ∀ st' : DSt, Q (.bl true) st'
theorem ar_law (ds : List D) (st : DSt) (Q : DK) (h : g_law ds st Q) : ds.length = 1 := by
  obtain ⟨_, _, rfl, _⟩ := h
  rfl
abbrev qLam (x : Str) : Str := (x ++ ".<locals>.") ++ "<lambda>"
def tabsOf : List (Addr × Addr) → List Str → List (Addr × Str)
  | c :: cs, n :: ns => (c.2, qLam n) :: tabsOf cs ns
  | _, _ => []
theorem tabsOf_mem : ∀ {cs : List (Addr × Addr)} {ns : List Str} (p : Addr × Str), p ∈ tabsOf cs ns → ∃ q ∈ cs, q.2 = p.1
  | c :: cs, n :: ns, p, h => by
    rcases List.mem_cons.mp h with z | z
    · rw [z]; exact ⟨c, List.mem_cons_self, rfl⟩
    · obtain ⟨q, hq, e⟩ := tabsOf_mem p z
      exact ⟨q, List.mem_cons_of_mem _ hq, e⟩
  | [], _, p, h => by simp [tabsOf] at h
  | _ :: _, [], p, h => by simp [tabsOf] at h
end DL
namespace DL
open PySem PySem.Spec PyProof.Rows L2 LamX PySem.W SL
mutual
theorem pdT_eqv : ∀ {d : D} {p : PyData}, pdT d = some p → PyData.eqv p p = true
  | .non, _, e => by simp [pdT] at e; subst e; simp [PyData.eqv]
  | .bl b, _, e => by simp [pdT] at e; subst e; simp [PyData.eqv]
  | .int b, _, e => by simp [pdT] at e; subst e; simp [PyData.eqv]
  | .str b, _, e => by simp [pdT] at e; subst e; simp [PyData.eqv]
  | .tup ds, _, e => by
    simp only [pdT, Option.map_eq_some_iff] at e
    obtain ⟨ps, e, rfl⟩ := e
    simp only [PyData.eqv]
    exact pdTs_eqv e
  | .tuk ds, _, e => by
    simp only [pdT, Option.map_eq_some_iff] at e
    obtain ⟨ps, e, rfl⟩ := e
    simp only [PyData.eqv]
    exact pdTs_eqv e
  | .lst ds, _, e => by
    simp only [pdT, Option.map_eq_some_iff] at e
    obtain ⟨ps, e, rfl⟩ := e
    simp only [PyData.eqv]
    exact pdTs_eqv e
  | .scr ds, _, e => by
    simp only [pdT, Option.map_eq_some_iff] at e
    obtain ⟨ps, e, rfl⟩ := e
    simp only [PyData.eqv]
    exact pdTs_eqv e
  | .ref n, _, e => by simp [pdT] at e
theorem pdTs_eqv : ∀ {d : List D} {p : List PyData}, pdTs d = some p → PyData.eqvAll p p = true
  | [], _, e => by simp [pdTs] at e; subst e; simp [PyData.eqvAll]
  | d :: ds, _, e => by
    unfold pdTs at e
    cases q : pdT d with
    | none => rw [q] at e; cases e
    | some y =>
      rw [q] at e
      simp only [Option.map_eq_some_iff] at e
      obtain ⟨ps, e, rfl⟩ := e
      simp only [PyData.eqvAll, pdT_eqv q, pdTs_eqv e, Bool.and_self]
end
theorem ne_tup {st : DSt} {k c : Nat} {xs : List D} {Q : DK} (sm : Sm k c (.tup xs)) (hk : k ≤ 50) (q : Q (.bl false) st) : dEqG true (.tup xs) (.tup xs) st Q := by
  obtain ⟨p, e1, el⟩ := sm
  have p1 : pdS st (.tup xs) = some p := by rw [← e1]; rfl
  show dEqD true (.tup xs) (.tup xs) st Q
  unfold dEqD
  rw [p1]
  refine ⟨⟨Sm.shaped el hk, Sm.shaped el hk⟩, ?_⟩
  show Q (.bl (!PyData.eqv p p)) st
  rw [pdT_eqv e1]
  exact q
end DL
namespace DL
open PySem PySem.Spec PyProof.Rows L2 LamX PySem.W SL
theorem R_ord (n : Nat) : Ord n (R n) := ⟨.refl _⟩
theorem o1 : Ord 1 [0] := R_ord 1
theorem t1 : ordT [0] = [[]] := by
  have tb := o1.tb
  have l := tb.len
  obtain ⟨r, e⟩ := List.length_eq_one_iff.mp l
  have rr : r = [] := by
    refine List.eq_nil_iff_forall_not_mem.mpr fun x hx => ?_
    have m := tb.inr 0 (by omega) x (by rw [e]; exact hx)
    have ii := tb.irr (a := 0) (by omega)
    refine ii ?_
    unfold Beats
    rw [e]
    have : x = 0 := by omega
    rw [this] at hx
    exact hx
  rw [e, rr]
end DL
namespace DL
open PySem PySem.Spec PyProof.Rows L2 LamX PySem.W SL
end DL
namespace DL
open PySem PySem.Spec PyProof.Rows L2 LamX PySem.W SL
end DL
namespace DL
open PySem PySem.Spec PyProof.Rows L2 LamX PySem.W SL
end DL
namespace ML
def step (f c : Int) : Int := if f + c - 1 > 0 then f + c - 1 else 0
def run (f : Int) (c : List Int) : Int := c.foldl step f
def scan (f : Int) : List Int → List Int
  | [] => []
  | x :: r => step f x :: scan (step f x) r
theorem step_nn (f c : Int) : 0 ≤ step f c := by unfold step; split <;> omega
theorem step_mono {f g c : Int} (h : f ≤ g) : step f c ≤ step g c := by unfold step; split <;> split <;> omega
theorem run_nn {f : Int} (h : 0 ≤ f) : ∀ c : List Int, 0 ≤ run f c := by
  intro c
  induction c generalizing f with
  | nil => exact h
  | cons x r ih => exact ih (step_nn f x)
theorem run_mono {f g : Int} (h : f ≤ g) : ∀ c : List Int, run f c ≤ run g c := by
  intro c
  induction c generalizing f g with
  | nil => exact h
  | cons x r ih => exact ih (step_mono h)
theorem run_cons (f x : Int) (r : List Int) : run f (x :: r) = run (step f x) r := rfl
theorem run_append (f : Int) (a b : List Int) : run f (a ++ b) = run (run f a) b := by unfold run; rw [List.foldl_append]
theorem scan_length (f : Int) : ∀ c : List Int, (scan f c).length = c.length := by
  intro c
  induction c generalizing f with
  | nil => rfl
  | cons x r ih => show _ + 1 = _ + 1; rw [ih]
theorem scan_at (f : Int) : ∀ (c : List Int) (i : Nat), i < c.length → (scan f c)[i]? = some (run f (c.take (i + 1))) := by
  intro c
  induction c generalizing f with
  | nil => intro i h; cases h
  | cons x r ih =>
    intro i h
    cases i with
    | zero => rfl
    | succ i =>
      show (scan (step f x) r)[i]? = _
      rw [ih _ i (by simpa using h)]
      rfl
def sumL (c : List Int) : Int := c.foldr (· + ·) 0
theorem sumL_cons (x : Int) (r : List Int) : sumL (x :: r) = x + sumL r := rfl
theorem run_either : ∀ (c : List Int) (f g : Int), f ≤ g → run g c = run f c ∨ run g c = g + sumL c - c.length := by
  intro c
  induction c with
  | nil => intro f g h; right; show g = g + 0 - ((0 : Nat) : Int); omega
  | cons x r ih =>
    intro f g h
    rw [run_cons, run_cons, sumL_cons, List.length_cons]
    by_cases e : g + x - 1 > 0
    · have eg : step g x = g + x - 1 := by unfold step; rw [if_pos e]
      rcases ih (step f x) (step g x) (step_mono h) with z | z
      · exact .inl z
      · right; rw [z, eg]; omega
    · have eg : step g x = 0 := by unfold step; rw [if_neg e]
      have ef : step f x = 0 := by unfold step; rw [if_neg (by omega)]
      left; rw [eg, ef]
theorem run_again {c : List Int} (room : sumL c ≤ c.length) : run (run 0 c) c = run 0 c := by
  have nn : 0 ≤ run 0 c := run_nn (Int.le_refl 0) c
  rcases run_either c 0 (run 0 c) nn with z | z
  · exact z
  · have := run_mono nn c
    omega
theorem scan_zero : ∀ (c : List Int) (x y : Int), y < x → run x c = run y c → (0 : Int) ∈ scan x c := by
  intro c
  induction c with
  | nil => intro x y h e; have : x = y := e; omega
  | cons a r ih =>
    intro x y h e
    by_cases q : step x a = step y a
    · have : step x a = 0 := by
        unfold step at q ⊢
        split at q <;> split at q <;> omega
      show (0 : Int) ∈ step x a :: scan (step x a) r
      rw [this]
      exact List.mem_cons_self
    · have : step y a < step x a := by
        have := step_mono (c := a) (Int.le_of_lt h)
        omega
      exact List.mem_cons_of_mem _ (ih _ _ this e)
def flowsI (c : List Int) : List Int := scan (run 0 c) c
theorem flowsI_length (c : List Int) : (flowsI c).length = c.length := scan_length _ _
theorem scan_last {c : List Int} (f : Int) (h : c ≠ []) : (scan f c)[c.length - 1]? = some (run f c) := by
  have l := List.length_pos_iff.mpr h
  rw [scan_at f c (c.length - 1) (by omega), show c.length - 1 + 1 = c.length by omega, List.take_length]
theorem flowsI_zero {c : List Int} (h : c ≠ []) (room : sumL c ≤ c.length) : (0 : Int) ∈ flowsI c := by
  by_cases e : run 0 c = 0
  · have z := scan_last (run 0 c) h
    rw [run_again room, e] at z
    unfold flowsI
    rw [e]
    exact List.mem_of_getElem? z
  · have nn : 0 ≤ run 0 c := run_nn (Int.le_refl 0) c
    exact scan_zero c (run 0 c) 0 (by omega) (run_again room)
structure Flow (n : Nat) (c f : Nat → Int) : Prop where
  per : ∀ i, f (i + n) = f i
  nn : ∀ i, 0 ≤ f i
  rec_ : ∀ i, f (i + 1) = step (f i) (c (i + 1))
  zero : ∃ z, f z = 0
def cy (c : List Int) (i : Nat) : Int := c.getD (i % c.length) 0
theorem cy_per (c : List Int) (i : Nat) : cy c (i + c.length) = cy c i := by unfold cy; rw [Nat.add_mod_right]
theorem cy_lt {c : List Int} {i : Nat} (h : i < c.length) : cy c i = c.getD i 0 := by unfold cy; rw [Nat.mod_eq_of_lt h]
theorem per_mul {n : Nat} {f : Nat → Int} (h : ∀ i, f (i + n) = f i) (i : Nat) : ∀ m, f (i + n * m) = f i
  | 0 => rfl
  | m + 1 => by rw [Nat.mul_succ, ← Nat.add_assoc, h, per_mul h i m]
theorem per_mod {n : Nat} {f : Nat → Int} (h : ∀ i, f (i + n) = f i) (i : Nat) : f (i % n) = f i := by
  have z := per_mul h (i % n) (i / n)
  rw [Nat.mod_add_div] at z
  exact z.symm
theorem getD_of {c : List Int} {i : Nat} {x : Int} (h : c[i]? = some x) : c.getD i 0 = x := by rw [List.getD_eq_getElem?_getD, h]; rfl
theorem flowsI_flow {c : List Int} (h : c ≠ []) (room : sumL c ≤ c.length) : Flow c.length (cy c) (cy (flowsI c)) := by
  have l := List.length_pos_iff.mpr h
  have lf := flowsI_length c
  have at_ : ∀ i, i < c.length → cy (flowsI c) i = run (run 0 c) (c.take (i + 1)) := fun i hi => by
    rw [cy_lt (by rw [lf]; exact hi)]
    exact getD_of (scan_at _ _ _ hi)
  have per : ∀ i, cy (flowsI c) (i + c.length) = cy (flowsI c) i := fun i => by
    have z := cy_per (flowsI c) i
    rw [lf] at z
    exact z
  refine ⟨per, fun i => ?_, fun i => ?_, ?_⟩
  · rw [← per_mod per, at_ _ (Nat.mod_lt _ l)]
    exact run_nn (run_nn (Int.le_refl 0) c) _
  · rw [← per_mod per i, ← per_mod per (i + 1), ← per_mod (cy_per c) (i + 1)]
    have lt := Nat.mod_lt i l
    have tk : ∀ k, k < c.length → c.take (k + 1) = c.take k ++ [c.getD k 0] := fun k hk => by
      rw [List.take_succ, List.getElem?_eq_getElem hk, List.getD_eq_getElem?_getD, List.getElem?_eq_getElem hk]
      rfl
    by_cases e : i % c.length + 1 = c.length
    · have e2 : (i + 1) % c.length = 0 := by
        have : (i + 1) % c.length = (i % c.length + 1) % c.length := by rw [Nat.add_mod]; simp
        rw [this, e, Nat.mod_self]
      rw [e2, at_ _ l, at_ _ lt, e, List.take_length, tk 0 l, run_append, run_again room, cy_lt l]
      rfl
    · have e2 : (i + 1) % c.length = i % c.length + 1 := by
        have : (i + 1) % c.length = (i % c.length + 1) % c.length := by rw [Nat.add_mod]; simp
        rw [this, Nat.mod_eq_of_lt (by omega)]
      rw [e2, at_ _ (by omega), at_ _ lt, tk _ (show i % c.length + 1 < c.length by omega), run_append, cy_lt (by omega)]
      rfl
  · obtain ⟨i, hi⟩ := List.mem_iff_getElem?.mp (flowsI_zero h room)
    refine ⟨i, ?_⟩
    have lt := (List.getElem?_eq_some_iff.mp hi).1
    rw [cy_lt lt]
    exact getD_of hi
theorem Flow.le {n : Nat} {c f g : Nat → Int} (F : Flow n c f) (G : Flow n c g) (n0 : 0 < n) (i : Nat) : f i ≤ g i := by
  obtain ⟨z, hz⟩ := F.zero
  have up : ∀ k, f (z + k) ≤ g (z + k) := by
    intro k
    induction k with
    | zero => rw [Nat.add_zero, hz]; exact G.nn z
    | succ k ih => rw [← Nat.add_assoc, F.rec_, G.rec_]; exact step_mono ih
  have e : i + n * (z + 1) = z + (i + n * (z + 1) - z) := by
    have : z + 1 ≤ n * (z + 1) := Nat.le_mul_of_pos_left _ n0
    omega
  rw [← per_mul F.per i (z + 1), ← per_mul G.per i (z + 1), e]
  exact up _
theorem Flow.one {n : Nat} {c f g : Nat → Int} (F : Flow n c f) (G : Flow n c g) (n0 : 0 < n) (i : Nat) : f i = g i := by
  have := F.le G n0 i
  have := G.le F n0 i
  omega
end ML
namespace ML
def sumN (n : Nat) (g : Nat → Int) : Int := match n with
  | 0 => 0
  | n + 1 => sumN n g + g n
theorem sumN_congr {n : Nat} {g h : Nat → Int} (e : ∀ i, i < n → g i = h i) : sumN n g = sumN n h := by
  induction n with
  | zero => rfl
  | succ n ih => show _ + _ = _ + _; rw [ih fun i hi => e i (by omega), e n (by omega)]
theorem sumN_add (n : Nat) (g h : Nat → Int) : sumN n (fun i => g i + h i) = sumN n g + sumN n h := by
  induction n with
  | zero => rfl
  | succ n ih => show sumN n (fun i => g i + h i) + (g n + h n) = (sumN n g + g n) + (sumN n h + h n); rw [ih]; omega
theorem sumN_le {n : Nat} {g h : Nat → Int} (e : ∀ i, i < n → g i ≤ h i) : sumN n g ≤ sumN n h := by
  induction n with
  | zero => exact Int.le_refl _
  | succ n ih =>
    show sumN n g + g n ≤ sumN n h + h n
    have := ih fun i hi => e i (by omega)
    have := e n (by omega)
    omega
theorem sumN_first (n : Nat) (g : Nat → Int) : sumN (n + 1) g = g 0 + sumN n (fun i => g (i + 1)) := by
  induction n with
  | zero => show (0 : Int) + g 0 = g 0 + 0; omega
  | succ n ih =>
    show sumN (n + 1) g + g (n + 1) = g 0 + (sumN n (fun i => g (i + 1)) + g (n + 1))
    rw [ih]
    omega
theorem sumN_shift {n : Nat} {g : Nat → Int} (per : g n = g 0) : sumN n (fun i => g (i + 1)) = sumN n g := by
  have a := sumN_first n g
  have b : sumN (n + 1) g = sumN n g + g n := rfl
  omega
theorem sumN_shifts {n : Nat} {g : Nat → Int} (per : ∀ i, g (i + n) = g i) (s : Nat) : sumN n (fun i => g (i + s)) = sumN n g := by
  induction s with
  | zero => rfl
  | succ s ih =>
    rw [← ih, ← sumN_shift (g := fun i => g (i + s)) (by show g (n + s) = g (0 + s); rw [Nat.add_comm n s, per, Nat.zero_add])]
    exact sumN_congr fun i _ => by show g (i + (s + 1)) = g (i + 1 + s); rw [show i + (s + 1) = i + 1 + s by omega]
theorem sumL_append (a b : List Int) : sumL (a ++ b) = sumL a + sumL b := by
  induction a with
  | nil => show sumL b = 0 + sumL b; omega
  | cons x r ih => show x + sumL (r ++ b) = x + sumL r + sumL b; rw [ih]; omega
theorem sumL_N : ∀ l : List Int, sumL l = sumN l.length (fun i => l.getD i 0) := by
  intro l
  induction l with
  | nil => rfl
  | cons x r ih =>
    rw [sumL_cons, List.length_cons, sumN_first, ih]
    rfl
theorem sumL_cy (l : List Int) : sumL l = sumN l.length (cy l) := by
  rw [sumL_N]
  exact sumN_congr fun i h => (cy_lt h).symm
def dist (n a i : Nat) : Nat := (i + (n - a)) % n
theorem dist_lt {n a i : Nat} (h : 0 < n) : dist n a i < n := Nat.mod_lt _ h
theorem dist_succ {n a i : Nat} (h : 0 < n) : dist n a (i + 1) = if dist n a i + 1 = n then 0 else dist n a i + 1 := by
  unfold dist
  have lt := Nat.mod_lt (i + (n - a)) h
  have e : (i + 1 + (n - a)) % n = ((i + (n - a)) % n + 1) % n := by
    rw [show i + 1 + (n - a) = (i + (n - a)) + 1 by omega]
    rw [Nat.add_mod]; simp
  rw [e]
  split
  · rename_i q; rw [q, Nat.mod_self]
  · exact Nat.mod_eq_of_lt (by omega)
theorem dist_add {n a k : Nat} (ha : a < n) (hk : k < n) : dist n a (a + k) = k := by
  unfold dist
  rw [show a + k + (n - a) = k + n by omega, Nat.add_mod_right, Nat.mod_eq_of_lt hk]
theorem dist_per {n a i : Nat} : dist n a (i + n) = dist n a i := by
  unfold dist
  rw [show i + n + (n - a) = i + (n - a) + n by omega, Nat.add_mod_right]
theorem dist_zero {n a i : Nat} (ha : a < n) (hi : i < n) : dist n a i = 0 ↔ i = a := by
  unfold dist
  constructor
  · intro h
    have h' := Nat.dvd_of_mod_eq_zero h
    obtain ⟨m, hm⟩ := h'
    have : m = 1 := by
      rcases Nat.lt_or_ge m 2 with q | q
      · rcases Nat.eq_zero_or_pos m with z | z
        · subst z; omega
        · omega
      · have : n * 2 ≤ n * m := Nat.mul_le_mul_left n q
        omega
    subst this
    omega
  · intro h
    subst h
    rw [show i + (n - i) = n by omega, Nat.mod_self]
theorem dist_eq {n a i k : Nat} (ha : a < n) (hi : i < n) (hk : k < n) : dist n a i = k ↔ i = (a + k) % n := by
  unfold dist
  rcases Nat.lt_or_ge i a with q | q
  · rw [show i + (n - a) = n - a + i by omega, Nat.mod_eq_of_lt (by omega)]
    constructor
    · intro h
      rw [show a + k = i + n by omega, Nat.add_mod_right, Nat.mod_eq_of_lt hi]
    · intro h
      rcases Nat.lt_or_ge (a + k) n with w | w
      · rw [Nat.mod_eq_of_lt w] at h; omega
      · rw [show a + k = (a + k - n) + n by omega, Nat.add_mod_right, Nat.mod_eq_of_lt (by omega)] at h; omega
  · rw [show i + (n - a) = (i - a) + n by omega, Nat.add_mod_right, Nat.mod_eq_of_lt (by omega)]
    constructor
    · intro h
      rw [show a + k = i by omega, Nat.mod_eq_of_lt hi]
    · intro h
      rcases Nat.lt_or_ge (a + k) n with w | w
      · rw [Nat.mod_eq_of_lt w] at h; omega
      · rw [show a + k = (a + k - n) + n by omega, Nat.add_mod_right, Nat.mod_eq_of_lt (by omega)] at h; omega
def tk (c f : Nat → Int) (i : Nat) : Prop := 0 < f i + c (i + 1)
def addC (n a : Nat) (c : Nat → Int) : Nat → Int := fun i => c i + if dist n a i = 0 then 1 else 0
def addF (n a L : Nat) (f : Nat → Int) : Nat → Int := fun i => f i + if dist n a i < L then 1 else 0
theorem Flow.at_ {n : Nat} {c f : Nat → Int} (F : Flow n c f) {i : Nat} (h : tk c f i) : f (i + 1) = f i + c (i + 1) - 1 := by
  unfold tk at h
  rw [F.rec_]
  unfold step
  split <;> omega
theorem Flow.off {n : Nat} {c f : Nat → Int} (F : Flow n c f) {i : Nat} (h : ¬ tk c f i) : f (i + 1) = 0 := by
  unfold tk at h
  rw [F.rec_]
  unfold step
  split <;> omega
structure Passed (n a L : Nat) (c f : Nat → Int) : Prop where
  ha : a < n
  lt : L < n
  yes : ∀ i, dist n a (i + 1) < L → tk c f i
  no : ∀ i, dist n a (i + 1) = L → ¬ tk c f i
theorem Flow.more {n a L : Nat} {c f : Nat → Int} (F : Flow n c f) (c0 : ∀ i, 0 ≤ c i) (P : Passed n a L c f) : Flow n (addC n a c) (addF n a L f) := by
  have n0 : 0 < n := Nat.lt_of_le_of_lt (Nat.zero_le _) P.ha
  refine ⟨fun i => ?_, fun i => ?_, fun i => ?_, ?_⟩
  · unfold addF; rw [F.per, dist_per]
  · unfold addF; have := F.nn i; split <;> omega
  · unfold addF addC
    have ds := dist_succ (n := n) (a := a) (i := i) n0
    have lt0 := dist_lt (n := n) (a := a) (i := i) n0
    have ci := c0 (i + 1)
    have fi := F.nn i
    rcases Nat.lt_trichotomy (dist n a (i + 1)) L with q | q | q
    · have t := P.yes i q
      have e := F.at_ t
      unfold tk at t
      unfold step
      by_cases z : dist n a i + 1 = n
      · rw [if_pos z] at ds
        rw [if_pos q, e, if_neg (show ¬ dist n a i < L by have := P.lt; omega), if_pos ds]
        split <;> omega
      · rw [if_neg z] at ds
        rw [if_pos q, e, if_pos (show dist n a i < L by omega), if_neg (show ¬ dist n a (i + 1) = 0 by omega)]
        split <;> omega
    · have t := P.no i q
      have e := F.off t
      unfold tk at t
      unfold step
      by_cases z : dist n a i + 1 = n
      · rw [if_pos z] at ds
        rw [if_neg (show ¬ dist n a (i + 1) < L by omega), e, if_neg (show ¬ dist n a i < L by have := P.lt; omega), if_pos ds]
        split <;> omega
      · rw [if_neg z] at ds
        rw [if_neg (show ¬ dist n a (i + 1) < L by omega), e, if_pos (show dist n a i < L by omega), if_neg (show ¬ dist n a (i + 1) = 0 by omega)]
        split <;> omega
    · have z : ¬ dist n a i + 1 = n := fun z => by rw [if_pos z] at ds; omega
      rw [if_neg z] at ds
      rw [if_neg (show ¬ dist n a (i + 1) < L by omega), if_neg (show ¬ dist n a i < L by omega), if_neg (show ¬ dist n a (i + 1) = 0 by omega), F.rec_]
      simp
  · refine ⟨a + L + n, ?_⟩
    have e : a + L + n = (a + L + (n - 1)) + 1 := by omega
    have d : dist n a ((a + L + (n - 1)) + 1) = L := by rw [← e, dist_per, dist_add P.ha P.lt]
    unfold addF
    rw [e, d, F.off (P.no _ d), if_neg (Nat.lt_irrefl _)]
    rfl
theorem tk_more {n a L : Nat} {c f : Nat → Int} (F : Flow n c f) (c0 : ∀ i, 0 ≤ c i) (P : Passed n a L c f) (i : Nat) : tk (addC n a c) (addF n a L f) i ↔ tk c f i ∨ dist n a (i + 1) = L := by
  have n0 : 0 < n := Nat.lt_of_le_of_lt (Nat.zero_le _) P.ha
  have ds := dist_succ (n := n) (a := a) (i := i) n0
  have lt0 := dist_lt (n := n) (a := a) (i := i) n0
  have ci := c0 (i + 1)
  have fi := F.nn i
  rcases Nat.lt_trichotomy (dist n a (i + 1)) L with q | q | q
  · have t := P.yes i q
    refine ⟨fun _ => .inl t, fun _ => ?_⟩
    unfold tk at t ⊢
    unfold addC addF
    split <;> split <;> omega
  · refine ⟨fun _ => .inr q, fun _ => ?_⟩
    unfold tk addC addF
    by_cases z : dist n a i + 1 = n
    · rw [if_pos z] at ds
      rw [if_pos ds]
      split <;> omega
    · rw [if_neg z] at ds
      rw [if_pos (show dist n a i < L by omega)]
      split <;> omega
  · have z : ¬ dist n a i + 1 = n := fun z => by rw [if_pos z] at ds; omega
    rw [if_neg z] at ds
    unfold tk addC addF
    rw [if_neg (show ¬ dist n a i < L by omega), if_neg (show ¬ dist n a (i + 1) = 0 by omega)]
    constructor
    · intro h; left; omega
    · rintro (h | h)
      · omega
      · omega
theorem Flow.room {n : Nat} {c f : Nat → Int} (F : Flow n c f) (cp : ∀ i, c (i + n) = c i) (n0 : 0 < n) (h : sumN n c < n) : ∃ i, i < n ∧ ¬ tk c f i := by
  apply Classical.byContradiction
  intro no
  have all : ∀ i, i < n → tk c f i := fun i hi => Classical.byContradiction fun q => no ⟨i, hi, q⟩
  have tel : ∀ m, m ≤ n → sumN m (fun i => c (i + 1)) = f m - f 0 + m := by
    intro m
    induction m with
    | zero => intro _; show (0 : Int) = f 0 - f 0 + ((0 : Nat) : Int); omega
    | succ m ih =>
      intro hm
      show sumN m (fun i => c (i + 1)) + c (m + 1) = _
      rw [ih (by omega), F.at_ (all m (by omega))]
      omega
  have a := tel n (Nat.le_refl n)
  have b := sumN_shift (n := n) (g := c) (by have := cp 0; rw [Nat.zero_add] at this; exact this)
  have p := F.per 0
  rw [Nat.zero_add] at p
  omega
theorem Flow.way {n a : Nat} {c f : Nat → Int} (F : Flow n c f) (cp : ∀ i, c (i + n) = c i) (ha : a < n) (h : sumN n c < n) : ∃ L, Passed n a L c f := by
  have n0 : 0 < n := by omega
  obtain ⟨i, hi, no⟩ := F.room cp n0 h
  have per : ∀ j, tk c f (j + n) ↔ tk c f j := fun j => by unfold tk; rw [F.per, show j + n + 1 = j + 1 + n by omega, cp]
  -- the least distance at which a slot is not taken
  have ex : ∃ k, k < n ∧ ∃ i, dist n a (i + 1) = k ∧ ¬ tk c f i := ⟨dist n a (i + 1), dist_lt n0, i, rfl, no⟩
  have least : ∀ k, (k < n ∧ ∃ i, dist n a (i + 1) = k ∧ ¬ tk c f i) → ∃ L, (L < n ∧ ∃ i, dist n a (i + 1) = L ∧ ¬ tk c f i) ∧ ∀ j, j < L → ¬ (∃ i, dist n a (i + 1) = j ∧ ¬ tk c f i) := by
    intro k
    induction k using Nat.strongRecOn with
    | _ k ih =>
      intro hk
      by_cases q : ∃ j, j < k ∧ ∃ i, dist n a (i + 1) = j ∧ ¬ tk c f i
      · obtain ⟨j, lj, hj⟩ := q
        exact ih j lj ⟨by omega, hj⟩
      · exact ⟨k, hk, fun j lj hj => q ⟨j, lj, hj⟩⟩
  obtain ⟨k, hk⟩ := ex
  obtain ⟨L, ⟨lL, i0, e0, n0'⟩, lst⟩ := least k hk
  refine ⟨L, ha, lL, fun i q => ?_, fun i q t => ?_⟩
  · exact Classical.byContradiction fun z => lst _ q ⟨i, rfl, z⟩
  · -- the same slot, but for rounds
    have same : (i + 1) % n = (i0 + 1) % n := by
      have m1 := (dist_eq (n := n) (a := a) (i := (i + 1) % n) (k := L) ha (Nat.mod_lt _ n0) lL).mp (by
        rw [← q]; unfold dist; rw [Nat.mod_add_mod])
      have m2 := (dist_eq (n := n) (a := a) (i := (i0 + 1) % n) (k := L) ha (Nat.mod_lt _ n0) lL).mp (by
        rw [← e0]; unfold dist; rw [Nat.mod_add_mod])
      rw [m1, m2]
    have pm : ∀ (j m : Nat), tk c f (j + n * m) ↔ tk c f j := by
      intro j m
      induction m with
      | zero => exact Iff.rfl
      | succ m ih => rw [Nat.mul_succ, ← Nat.add_assoc, per]; exact ih
    have e1 := Nat.mod_add_div (i + 1) n
    have e2 := Nat.mod_add_div (i0 + 1) n
    rcases Nat.le_total ((i + 1) / n) ((i0 + 1) / n) with w | w
    · obtain ⟨m, hm⟩ := Nat.exists_eq_add_of_le w
      have : i0 = i + n * m := by
        rw [hm, Nat.mul_add] at e2
        omega
      rw [this] at n0'
      exact n0' ((pm i m).mpr t)
    · obtain ⟨m, hm⟩ := Nat.exists_eq_add_of_le w
      have : i = i0 + n * m := by
        rw [hm, Nat.mul_add] at e1
        omega
      rw [this] at t
      exact n0' ((pm i0 m).mp t)
theorem sum_addF {n a L : Nat} {f : Nat → Int} (ha : a < n) (hL : L ≤ n) : sumN n (addF n a L f) = sumN n f + L := by
  unfold addF
  rw [sumN_add]
  have n0 : 0 < n := by omega
  have e : sumN n (fun i => if dist n a i < L then (1 : Int) else 0) = sumN n (fun i => if i % n < L then (1 : Int) else 0) :=
    sumN_shifts (g := fun i => if i % n < L then (1 : Int) else 0) (fun i => by simp only [Nat.add_mod_right]) (n - a)
  have cnt : ∀ m, m ≤ n → sumN m (fun i => if i % n < L then (1 : Int) else 0) = ((min m L : Nat) : Int) := by
    intro m
    induction m with
    | zero => intro _; simp [sumN]
    | succ m ih =>
      intro hm
      show sumN m _ + _ = _
      rw [ih (by omega)]
      simp only [Nat.mod_eq_of_lt (show m < n by omega)]
      split <;> omega
  rw [e, cnt n (Nat.le_refl n), Nat.min_eq_right hL]
end ML
namespace ML
end ML
namespace DL
open PySem PySem.Spec PyProof.Rows L2 LamX PySem.W SL
theorem for_list {α : Type} {I : DIt} {g : DTG} {F : DTS} {E : DEnds} {b : DSt} (enc : α → D) (W : List α → DEnv → DSt → Prop)
    (turn : ∀ x xs r st (N : DEnv → DSt → Prop), (∀ r st, Wk b (W xs) r st → N r st) → W (x :: xs) r st → okI I st (g (enc x) r st fun r1 st1 => F { nx := N, rt := E.rt, bk := E.nx, ct := N } r1 st1)) (done : ∀ r st, W [] r st → okI I st (E.nx r st)) :
    ∀ (items : List α) (r : DEnv) (st : DSt), W items r st → forL I g F E b (items.map enc) r st
  | [], r, st, h => done r st h
  | d :: ds, r, st, h => by
    refine turn d ds r st _ (fun r st w => ?_) h
    rcases w with w | ⟨r', n, h1, h2, h3, h4, h5, w⟩
    · exact .inl (for_list enc W turn done ds r st w)
    · exact .inr ⟨r', n, h1, h2, h3, h4, h5, for_list enc W turn done ds r' _ w⟩
def pairD (p : Int × Int) : D := .tup [.int p.1, .int p.2]
def Runs (rs : List (Int × Int)) (d : D) : Prop := d = .lst (rs.map pairD) ∨ d = .tup (rs.map pairD)
theorem Runs.it {rs : List (Int × Int)} {d : D} (h : Runs rs d) (st : DSt) : itOf st d = some ⟨rs.map pairD, none⟩ := by rcases h with rfl | rfl <;> rfl
theorem Runs.clo {rs : List (Int × Int)} {d : D} (h : Runs rs d) (n : Nat) : DL.clo n d = true := by
  have z : ∀ rs : List (Int × Int), clos n (rs.map pairD) = true := by
    intro rs
    induction rs with
    | nil => rfl
    | cons p r ih => rw [List.map_cons]; simp [clos, DL.clo, pairD, ih]
  rcases h with rfl | rfl <;> simp only [DL.clo] <;> exact z rs
end DL
namespace DL
open PySem PySem.Spec PyProof.Rows L2 LamX PySem.W SL
structure Cnt (c : List Int) : Prop where
  ne : c ≠ []
  few : c.length ≤ 900
  nn : ∀ x ∈ c, 0 ≤ x
  room : ML.sumL c ≤ c.length
theorem Cnt.pos {c : List Int} (h : Cnt c) : 0 < c.length := List.length_pos_iff.mpr h.ne
theorem Cnt.flow {c : List Int} (h : Cnt c) : ML.Flow c.length (ML.cy c) (ML.cy (ML.flowsI c)) := ML.flowsI_flow h.ne h.room
theorem sum_mem_le : ∀ {l : List Int}, (∀ x ∈ l, 0 ≤ x) → ∀ x ∈ l, x ≤ ML.sumL l
  | y :: r, h, x, hx => by
    have s0 : 0 ≤ ML.sumL r := by
      have : ∀ {l : List Int}, (∀ x ∈ l, 0 ≤ x) → 0 ≤ ML.sumL l := by
        intro l
        induction l with
        | nil => intro _; exact Int.le_refl 0
        | cons z l ih => intro h; rw [ML.sumL_cons]; have := ih fun x hx => h x (List.mem_cons_of_mem _ hx); have := h z List.mem_cons_self; omega
      exact this fun x hx => h x (List.mem_cons_of_mem _ hx)
    rw [ML.sumL_cons]
    rcases List.mem_cons.mp hx with z | z
    · omega
    · have := sum_mem_le (fun x hx => h x (List.mem_cons_of_mem _ hx)) x z
      have := h y List.mem_cons_self
      omega
theorem Cnt.le {c : List Int} (h : Cnt c) {x : Int} (hx : x ∈ c) : x ≤ c.length := Int.le_trans (sum_mem_le h.nn x hx) h.room
theorem row_at {xs : List Int} {s : Nat} (h : s < xs.length) : atI (xs.map D.int) (s : Int) = some (.int (xs.getD s 0)) := by
  refine atI_nat ?_
  rw [List.getElem?_map, List.getElem?_eq_getElem h, List.getD_eq_getElem?_getD, List.getElem?_eq_getElem h]
  rfl
def isTk (c : List Int) (s : Nat) : Bool := decide (0 < ML.cy (ML.flowsI c) (s + (c.length - 1)) + c.getD s 0)
def takenI (c : List Int) : List Int := ((List.range c.length).filter (isTk c)).map fun s : Nat => (s : Int)
def waitsI (c : List Int) : List Int := (List.range c.length).flatMap fun s => (List.range (c.getD s 0).toNat).map fun k : Nat => ML.cy (ML.flowsI c) (s + (c.length - 1)) + (k : Int)
def sqSum (l : List Int) : Int := ML.sumL (l.map fun x => x * x)
end DL
namespace DL
open PySem PySem.Spec PyProof.Rows L2 LamX PySem.W SL
section
variable {st : DSt} {p : Nat} {o o2 : O} {junk : List O} {x y z : O}
theorem pot_app (lt : p < st.length) : (st.set p o ++ junk).set p o2 = st.set p o2 ++ junk := by
  rw [List.set_append_left _ _ (by rw [List.length_set]; exact lt), List.set_set]
theorem pot_at {k : Nat} (lt : p < st.length) (h : PotO k o) : Pot k p (st.set p o ++ junk) := (Pot.set lt h).app
theorem own0 : (st.set p o ++ x :: junk)[st.length]? = some x := by
  rw [List.getElem?_append_right (by rw [List.length_set]; exact Nat.le_refl _), List.length_set, Nat.sub_self]
  rfl
theorem own1 : (st.set p o ++ x :: y :: junk)[st.length + 1]? = some y := by
  rw [List.getElem?_append_right (by rw [List.length_set]; omega), List.length_set, show st.length + 1 - st.length = 1 by omega]
  rfl
theorem put0 : (st.set p o ++ x :: junk).set st.length y = st.set p o ++ y :: junk := by
  rw [List.set_append_right _ _ (by rw [List.length_set]; exact Nat.le_refl _), List.length_set, Nat.sub_self]
  rfl
theorem put1 {w : O} : (st.set p o ++ x :: y :: junk).set (st.length + 1) w = st.set p o ++ x :: w :: junk := by
  rw [List.set_append_right _ _ (by rw [List.length_set]; omega), List.length_set, show st.length + 1 - st.length = 1 by omega]
  rfl
theorem ownA : (st ++ x :: junk)[st.length]? = some x := by simp
theorem ownB : (st ++ x :: y :: junk)[st.length + 1]? = some y := by
  rw [List.getElem?_append_right (by omega), show st.length + 1 - st.length = 1 by omega]
  rfl
theorem putA : (st ++ x :: junk).set st.length y = st ++ y :: junk := by simp
theorem putB {w : O} : (st ++ x :: y :: junk).set (st.length + 1) w = st ++ x :: w :: junk := by
  rw [List.set_append_right _ _ (by omega), show st.length + 1 - st.length = 1 by omega]
  rfl
end
theorem ixN_lt {n j : Nat} (h : j < n) : ixN n (j : Int) = some j := by
  unfold ixN
  rw [if_pos (by omega), if_pos (by omega)]
  simp
theorem take_ev {p : Nat} {z : Int} {n : Nat} {st : DSt} {Q : DK} (pot : Pot (n + 1) p st) (z0 : 0 < z) (z1 : z ≤ 1000) (q : ∀ (r : Nat) (o : O), (r : Int) < z → PotO n o → Q (.int r) (st.set p o)) : g_take [.ref p, .int z] st Q :=
  ⟨p, z, n, rfl, pot, z0, z1, fun r o r0 r1 po => by
    obtain ⟨k, rfl⟩ := Int.eq_ofNat_of_zero_le r0
    exact q k o r1 po⟩
theorem pick_ev {p : Nat} {xs : List D} {n : Nat} {st : DSt} {Q : DK} (pot : Pot (n + 1) p st) (ne : xs ≠ []) (few : xs.length ≤ 1000) (q : ∀ (d : D) (o : O), d ∈ xs → PotO n o → Q d (st.set p o)) : g_pick [.ref p, .lst xs] st Q :=
  ⟨p, _, xs, n, rfl, fun z => (by cases z), rfl, ne, few, pot, q⟩
theorem sum_set {l : List Int} {i : Nat} (h : i < l.length) (x : Int) : ML.sumL (l.set i x) = ML.sumL l - l.getD i 0 + x := by
  induction l generalizing i with
  | nil => cases h
  | cons y r ih =>
    cases i with
    | zero => show x + ML.sumL r = y + ML.sumL r - y + x; omega
    | succ i =>
      show y + ML.sumL (r.set i x) = y + ML.sumL r - r.getD i 0 + x
      rw [ih (by simpa using h)]
      omega
theorem getD_mem {l : List Int} {i : Nat} (h : i < l.length) : l.getD i 0 ∈ l := by
  rw [List.getD_eq_getElem?_getD, List.getElem?_eq_getElem h]
  exact List.getElem_mem h
theorem rep_flat {α : Type} (n : Nat) (a : α) : (List.replicate n [a]).flatten = List.replicate n a := by
  induction n with
  | zero => rfl
  | succ n ih => rw [List.replicate_succ, List.flatten_cons, ih, List.replicate_succ]; rfl
end DL
namespace DL
open PySem PySem.Spec PyProof.Rows L2 LamX PySem.W SL
def pairN (x : Nat × Nat) : D := .tup [.int (x.1 : Nat), .int (x.2 : Nat)]
def pathD (p : List (Nat × Nat)) : D := .tup (p.map pairN)
theorem clos_pairs (n : Nat) : ∀ p : List (Nat × Nat), clos n (p.map pairN) = true
  | [] => rfl
  | x :: r => by rw [List.map_cons]; simp [clos, clo, pairN, clos_pairs n r]
theorem lay_at {sl : List Int} {s : Nat} {x : Int} (h : sl[s]? = some x) : atI (sl.map D.int) (s : Int) = some (.int x) := atI_nat (by rw [List.getElem?_map, h]; rfl)
theorem At.d {sl : List Int} {s k : Nat} (h : At sl s k) : atI (sl.map D.int) (s : Int) = some (.int (k : Nat)) := lay_at h
section
variable {m n : Nat} {P : List (List Int)} {R : List (List (List Int))}
theorem Setg.p_at (S : Setg m n P R) {a : Nat} (h : a < m) : atI (P.map rowD) (a : Int) = some (.tup ((P.getD a []).map D.int)) := rows_at (by rw [S.pl]; exact h)
theorem Setg.r_at (S : Setg m n P R) {s : Nat} (h : s < n) : atI (R.map rowsD) (s : Int) = some (.tup ((R.getD s []).map rowD)) := at_map (by rw [List.getD_eq_getElem?_getD, List.getElem?_eq_getElem (by rw [S.rl]; exact h)]; rfl)
theorem Setg.t_at (S : Setg m n P R) {s k : Nat} (h : s < n) (hk : k < m) : atI ((R.getD s []).map rowD) (k : Int) = some (.tup (((R.getD s []).getD k []).map D.int)) := rows_at (by rw [(S.tb h).len]; exact hk)
theorem Setg.s_at (S : Setg m n P R) {a i : Nat} (ha : a < m) (hi : i < n) : atI ((P.getD a []).map D.int) (i : Int) = some (.int (pr P a i : Nat)) := lay_at (S.pr_at ha hi).1
theorem nin_row {st : DSt} {ns : List Int} {x : Int} {Q : DK} (q : Q (.bl (!decide (x ∈ ns))) st) : dInG true (.int x) (.tup (ns.map D.int)) st Q := by
  simp only [e_nin, e_seqT, e_onO]
  refine ⟨⟨rfl, flat_row ns⟩, ?_⟩
  have z : (ns.map D.int).any (fun y => eqF y (.int x)) = decide (x ∈ ns) := by
    rw [Bool.eq_iff_iff, List.any_eq_true, decide_eq_true_eq]
    constructor
    · rintro ⟨d, hd, e⟩
      obtain ⟨i, hi, rfl⟩ := List.mem_map.mp hd
      have e' : (i == x) = true := e
      have : i = x := by simpa using e'
      rw [← this]; exact hi
    · intro h
      exact ⟨.int x, List.mem_map.mpr ⟨x, h, rfl⟩, by show (x == x) = true; simp⟩
  rw [z]
  exact q
theorem mem_lay {sl : List Int} {a : Nat} : (a : Int) ∈ sl ↔ ∃ s, At sl s a := by
  rw [List.mem_iff_getElem?]
  rfl
def g_insert : DRs := fun ds st Q => ∃ (m n : Nat) (P : List (List Int)) (R : List (List (List Int))) (sl : List Int) (a : Nat), ds = [rowsD P, tabsD R, rowD sl, .int (a : Nat)] ∧ Setg m n P R ∧ m ≤ 60 ∧ n ≤ 60 ∧ Go m n P sl a 0 ∧ Q (.tup [rowD (ins P R sl a).1, pathD (ins P R sl a).2]) st
theorem ar_insert (ds : List D) (st : DSt) (Q : DK) (h : g_insert ds st Q) : ds.length = 4 := by
  obtain ⟨_, _, _, _, _, _, rfl, _⟩ := h
  rfl
theorem insG_len : ∀ (f : Nat) (sl : List Int) (a i : Nat) (L : List Int) (p : List (Nat × Nat)), insG P R f sl a i = some (L, p) → p.length ≤ f
  | 0, _, _, _, _, _, h => by cases h
  | f + 1, sl, a, i, L, p, h => by
    unfold insG at h
    split at h
    · split at h
      · obtain ⟨⟨L2, p2⟩, h1, h2⟩ := Option.map_eq_some_iff.mp h
        cases h2
        have := insG_len f _ _ _ _ p2 h1
        simp
        omega
      · have := insG_len f _ _ _ _ p h
        omega
    · cases h
      simp
theorem pot_le (S : Setg m n P R) {sl : List Int} (l : sl.length = n) : pot P n sl ≤ n * n := by
  unfold pot
  rw [l]
  have gen : ∀ k, ((List.range k).map fun t => wt P n t (sl.getD t (-1))).sum ≤ k * n := by
    intro k
    induction k with
    | zero => simp
    | succ k ih =>
      rw [List.range_succ, List.map_append, List.sum_append, Nat.succ_mul]
      have : wt P n k (sl.getD k (-1)) ≤ n := by unfold wt; split <;> omega
      simp only [List.map_cons, List.map_nil, List.sum_cons, List.sum_nil]
      omega
  exact gen n
set_option maxHeartbeats 4000000 in
theorem sem_insert (ds : List D) (st : DSt) (Q : DK) (h : g_insert ds st Q) : F_insert { nx := fun _ st' => Rt st Q .non st', rt := Rt st Q } (startD 8 ds) st := by
  obtain ⟨m, n, P, R, sl, a, rfl, S, m60, n60, G, q⟩ := h
  have st8 : startD 8 [rowsD P, tabsD R, rowD sl, D.int (a : Nat)] = [some (.tup (P.map rowD)), some (.tup (R.map rowsD)), some (.tup (sl.map D.int)), some (.int (a : Nat)), none, none, none, none] := rfl
  have big : (100000 : Nat) ≤ sizeLine := by decide
  have nn : n * n ≤ 60 * 60 := Nat.mul_le_mul n60 n60
  have eI := ins_eq S G
  have pl := pot_le S G.g.lay.len
  have rl := S.rl
  have n0 : 0 < n := Nat.lt_of_le_of_lt (Nat.zero_le _) G.hi
  generalize hF : pot P R.length sl + R.length + 1 = F at eI
  have F4 : F ≤ 5000 := by rw [← hF, rl]; omega
  generalize ins P R sl a = X at eI q
  obtain ⟨LL, PP⟩ := X
  have lp := insG_len F sl a 0 LL PP eI
  simp only [F_insert, st8]
  try dsimp only
  rw [e_seq]
  try simp only [e_var, e_C, e_op, e_neg, e_isN, e_notN, e_and, e_or, e_not, e_test, e_tAnd, e_tOr, e_tNot, e_tYes, e_if, e_aNil, e_aCons, e_tup, e_lst, e_lstN, e_len0, e_len1, e_len2, e_len3, e_len4, e_len5, e_cb, e_on1, e_on2, e_onI, e_onB, e_onO, e_onO0, e_onOO, e_I0, e_I, e_add, e_addT, e_addS, e_addL, e_addLR, e_addRL, e_addRR, e_mul, e_mulL, e_mulT, e_rev, e_revT, e_ix, e_eqI, e_eqS, e_eqB, e_neI, e_neS, e_neB, e_ltI, e_chain, e_len, e_abs, e_2I, e_tuple1, e_tuple2, e_tuple3, e_listT, e_listN, e_allR, e_seqT, e_seqK, e_seqL, e_isi, e_isB, e_notB, e_truth, e_next, e_drop, e_ret, e_retN, e_ifS, e_set, e_asg, e_par, e_nm, e_gsN, e_gsC, e_gTpK, e_gTpL, e_sum, e_maxL, e_minL, e_maxDef, e_int, e_intB, e_aug, e_on3, e_par3, e_newK, e_getK, e_keyI, e_keyS, e_inK, e_ninK, e_putK, e_lenK, e_lstS, e_seqX, e_gTpT, e_oN, e_oS, e_sl, e_slT, e_slL, e_finT, e_finN, e_index, e_idxT, e_idxL, e_mIx, e_ixST, e_ixSL, e_mtL, e_w, e_w1, e_w2, e_wE, e_wZ, e_itK, e_itT, e_itL, e_itT2, e_itL2, e_lc, e_for, e_wipe0, e_wipe, e_okI, e_okR, e_gSb, List.getElem?_cons_zero, List.getElem?_cons_succ, List.set_cons_zero, List.set_cons_succ]
  refine row_in ?_
  try simp only [e_var, e_C, e_op, e_neg, e_isN, e_notN, e_and, e_or, e_not, e_test, e_tAnd, e_tOr, e_tNot, e_tYes, e_if, e_aNil, e_aCons, e_tup, e_lst, e_lstN, e_len0, e_len1, e_len2, e_len3, e_len4, e_len5, e_cb, e_on1, e_on2, e_onI, e_onB, e_onO, e_onO0, e_onOO, e_I0, e_I, e_add, e_addT, e_addS, e_addL, e_addLR, e_addRL, e_addRR, e_mul, e_mulL, e_mulT, e_rev, e_revT, e_ix, e_eqI, e_eqS, e_eqB, e_neI, e_neS, e_neB, e_ltI, e_chain, e_len, e_abs, e_2I, e_tuple1, e_tuple2, e_tuple3, e_listT, e_listN, e_allR, e_seqT, e_seqK, e_seqL, e_isi, e_isB, e_notB, e_truth, e_next, e_drop, e_ret, e_retN, e_ifS, e_set, e_asg, e_par, e_nm, e_gsN, e_gsC, e_gTpK, e_gTpL, e_sum, e_maxL, e_minL, e_maxDef, e_int, e_intB, e_aug, e_on3, e_par3, e_newK, e_getK, e_keyI, e_keyS, e_inK, e_ninK, e_putK, e_lenK, e_lstS, e_seqX, e_gTpT, e_oN, e_oS, e_sl, e_slT, e_slL, e_finT, e_finN, e_index, e_idxT, e_idxL, e_mIx, e_ixST, e_ixSL, e_mtL, e_w, e_w1, e_w2, e_wE, e_wZ, e_itK, e_itT, e_itL, e_itT2, e_itL2, e_lc, e_for, e_wipe0, e_wipe, e_okI, e_okR, e_gSb, List.getElem?_cons_zero, List.getElem?_cons_succ, List.set_cons_zero, List.set_cons_succ]
  refine iteF' (decide_eq_false fun z => by obtain ⟨s, hs⟩ := mem_lay.mp z; exact G.fr s hs) ?_
  try dsimp only
  rw [e_seq]
  try simp only [e_var, e_C, e_op, e_neg, e_isN, e_notN, e_and, e_or, e_not, e_test, e_tAnd, e_tOr, e_tNot, e_tYes, e_if, e_aNil, e_aCons, e_tup, e_lst, e_lstN, e_len0, e_len1, e_len2, e_len3, e_len4, e_len5, e_cb, e_on1, e_on2, e_onI, e_onB, e_onO, e_onO0, e_onOO, e_I0, e_I, e_add, e_addT, e_addS, e_addL, e_addLR, e_addRL, e_addRR, e_mul, e_mulL, e_mulT, e_rev, e_revT, e_ix, e_eqI, e_eqS, e_eqB, e_neI, e_neS, e_neB, e_ltI, e_chain, e_len, e_abs, e_2I, e_tuple1, e_tuple2, e_tuple3, e_listT, e_listN, e_allR, e_seqT, e_seqK, e_seqL, e_isi, e_isB, e_notB, e_truth, e_next, e_drop, e_ret, e_retN, e_ifS, e_set, e_asg, e_par, e_nm, e_gsN, e_gsC, e_gTpK, e_gTpL, e_sum, e_maxL, e_minL, e_maxDef, e_int, e_intB, e_aug, e_on3, e_par3, e_newK, e_getK, e_keyI, e_keyS, e_inK, e_ninK, e_putK, e_lenK, e_lstS, e_seqX, e_gTpT, e_oN, e_oS, e_sl, e_slT, e_slL, e_finT, e_finN, e_index, e_idxT, e_idxL, e_mIx, e_ixST, e_ixSL, e_mtL, e_w, e_w1, e_w2, e_wE, e_wZ, e_itK, e_itT, e_itL, e_itT2, e_itL2, e_lc, e_for, e_wipe0, e_wipe, e_okI, e_okR, e_gSb, List.getElem?_cons_zero, List.getElem?_cons_succ, List.set_cons_zero, List.set_cons_succ]
  refine nin_row ?_
  try simp only [e_var, e_C, e_op, e_neg, e_isN, e_notN, e_and, e_or, e_not, e_test, e_tAnd, e_tOr, e_tNot, e_tYes, e_if, e_aNil, e_aCons, e_tup, e_lst, e_lstN, e_len0, e_len1, e_len2, e_len3, e_len4, e_len5, e_cb, e_on1, e_on2, e_onI, e_onB, e_onO, e_onO0, e_onOO, e_I0, e_I, e_add, e_addT, e_addS, e_addL, e_addLR, e_addRL, e_addRR, e_mul, e_mulL, e_mulT, e_rev, e_revT, e_ix, e_eqI, e_eqS, e_eqB, e_neI, e_neS, e_neB, e_ltI, e_chain, e_len, e_abs, e_2I, e_tuple1, e_tuple2, e_tuple3, e_listT, e_listN, e_allR, e_seqT, e_seqK, e_seqL, e_isi, e_isB, e_notB, e_truth, e_next, e_drop, e_ret, e_retN, e_ifS, e_set, e_asg, e_par, e_nm, e_gsN, e_gsC, e_gTpK, e_gTpL, e_sum, e_maxL, e_minL, e_maxDef, e_int, e_intB, e_aug, e_on3, e_par3, e_newK, e_getK, e_keyI, e_keyS, e_inK, e_ninK, e_putK, e_lenK, e_lstS, e_seqX, e_gTpT, e_oN, e_oS, e_sl, e_slT, e_slL, e_finT, e_finN, e_index, e_idxT, e_idxL, e_mIx, e_ixST, e_ixSL, e_mtL, e_w, e_w1, e_w2, e_wE, e_wZ, e_itK, e_itT, e_itL, e_itT2, e_itL2, e_lc, e_for, e_wipe0, e_wipe, e_okI, e_okR, e_gSb, List.getElem?_cons_zero, List.getElem?_cons_succ, List.set_cons_zero, List.set_cons_succ]
  refine iteF' ?_ ?_
  · obtain ⟨t, lt, e⟩ := G.room
    rw [decide_eq_true (List.mem_of_getElem? e)]
    rfl
  try dsimp only
  rw [e_seq]
  try simp only [e_var, e_C, e_op, e_neg, e_isN, e_notN, e_and, e_or, e_not, e_test, e_tAnd, e_tOr, e_tNot, e_tYes, e_if, e_aNil, e_aCons, e_tup, e_lst, e_lstN, e_len0, e_len1, e_len2, e_len3, e_len4, e_len5, e_cb, e_on1, e_on2, e_onI, e_onB, e_onO, e_onO0, e_onOO, e_I0, e_I, e_add, e_addT, e_addS, e_addL, e_addLR, e_addRL, e_addRR, e_mul, e_mulL, e_mulT, e_rev, e_revT, e_ix, e_eqI, e_eqS, e_eqB, e_neI, e_neS, e_neB, e_ltI, e_chain, e_len, e_abs, e_2I, e_tuple1, e_tuple2, e_tuple3, e_listT, e_listN, e_allR, e_seqT, e_seqK, e_seqL, e_isi, e_isB, e_notB, e_truth, e_next, e_drop, e_ret, e_retN, e_ifS, e_set, e_asg, e_par, e_nm, e_gsN, e_gsC, e_gTpK, e_gTpL, e_sum, e_maxL, e_minL, e_maxDef, e_int, e_intB, e_aug, e_on3, e_par3, e_newK, e_getK, e_keyI, e_keyS, e_inK, e_ninK, e_putK, e_lenK, e_lstS, e_seqX, e_gTpT, e_oN, e_oS, e_sl, e_slT, e_slL, e_finT, e_finN, e_index, e_idxT, e_idxL, e_mIx, e_ixST, e_ixSL, e_mtL, e_w, e_w1, e_w2, e_wE, e_wZ, e_itK, e_itT, e_itL, e_itT2, e_itL2, e_lc, e_for, e_wipe0, e_wipe, e_okI, e_okR, e_gSb, List.getElem?_cons_zero, List.getElem?_cons_succ, List.set_cons_zero, List.set_cons_succ]
  try dsimp only
  rw [e_seq]
  try simp only [e_var, e_C, e_op, e_neg, e_isN, e_notN, e_and, e_or, e_not, e_test, e_tAnd, e_tOr, e_tNot, e_tYes, e_if, e_aNil, e_aCons, e_tup, e_lst, e_lstN, e_len0, e_len1, e_len2, e_len3, e_len4, e_len5, e_cb, e_on1, e_on2, e_onI, e_onB, e_onO, e_onO0, e_onOO, e_I0, e_I, e_add, e_addT, e_addS, e_addL, e_addLR, e_addRL, e_addRR, e_mul, e_mulL, e_mulT, e_rev, e_revT, e_ix, e_eqI, e_eqS, e_eqB, e_neI, e_neS, e_neB, e_ltI, e_chain, e_len, e_abs, e_2I, e_tuple1, e_tuple2, e_tuple3, e_listT, e_listN, e_allR, e_seqT, e_seqK, e_seqL, e_isi, e_isB, e_notB, e_truth, e_next, e_drop, e_ret, e_retN, e_ifS, e_set, e_asg, e_par, e_nm, e_gsN, e_gsC, e_gTpK, e_gTpL, e_sum, e_maxL, e_minL, e_maxDef, e_int, e_intB, e_aug, e_on3, e_par3, e_newK, e_getK, e_keyI, e_keyS, e_inK, e_ninK, e_putK, e_lenK, e_lstS, e_seqX, e_gTpT, e_oN, e_oS, e_sl, e_slT, e_slL, e_finT, e_finN, e_index, e_idxT, e_idxL, e_mIx, e_ixST, e_ixSL, e_mtL, e_w, e_w1, e_w2, e_wE, e_wZ, e_itK, e_itT, e_itL, e_itT2, e_itL2, e_lc, e_for, e_wipe0, e_wipe, e_okI, e_okR, e_gSb, List.getElem?_cons_zero, List.getElem?_cons_succ, List.set_cons_zero, List.set_cons_succ, List.length_append]
  try dsimp only
  rw [e_seq]
  try simp only [e_var, e_C, e_op, e_neg, e_isN, e_notN, e_and, e_or, e_not, e_test, e_tAnd, e_tOr, e_tNot, e_tYes, e_if, e_aNil, e_aCons, e_tup, e_lst, e_lstN, e_len0, e_len1, e_len2, e_len3, e_len4, e_len5, e_cb, e_on1, e_on2, e_onI, e_onB, e_onO, e_onO0, e_onOO, e_I0, e_I, e_add, e_addT, e_addS, e_addL, e_addLR, e_addRL, e_addRR, e_mul, e_mulL, e_mulT, e_rev, e_revT, e_ix, e_eqI, e_eqS, e_eqB, e_neI, e_neS, e_neB, e_ltI, e_chain, e_len, e_abs, e_2I, e_tuple1, e_tuple2, e_tuple3, e_listT, e_listN, e_allR, e_seqT, e_seqK, e_seqL, e_isi, e_isB, e_notB, e_truth, e_next, e_drop, e_ret, e_retN, e_ifS, e_set, e_asg, e_par, e_nm, e_gsN, e_gsC, e_gTpK, e_gTpL, e_sum, e_maxL, e_minL, e_maxDef, e_int, e_intB, e_aug, e_on3, e_par3, e_newK, e_getK, e_keyI, e_keyS, e_inK, e_ninK, e_putK, e_lenK, e_lstS, e_seqX, e_gTpT, e_oN, e_oS, e_sl, e_slT, e_slL, e_finT, e_finN, e_index, e_idxT, e_idxL, e_mIx, e_ixST, e_ixSL, e_mtL, e_w, e_w1, e_w2, e_wE, e_wZ, e_itK, e_itT, e_itL, e_itT2, e_itL2, e_lc, e_for, e_wipe0, e_wipe, e_okI, e_okR, e_gSb, List.getElem?_cons_zero, List.getElem?_cons_succ, List.set_cons_zero, List.set_cons_succ]
  try dsimp only
  rw [e_seq]
  try simp only [e_var, e_C, e_op, e_neg, e_isN, e_notN, e_and, e_or, e_not, e_test, e_tAnd, e_tOr, e_tNot, e_tYes, e_if, e_aNil, e_aCons, e_tup, e_lst, e_lstN, e_len0, e_len1, e_len2, e_len3, e_len4, e_len5, e_cb, e_on1, e_on2, e_onI, e_onB, e_onO, e_onO0, e_onOO, e_I0, e_I, e_add, e_addT, e_addS, e_addL, e_addLR, e_addRL, e_addRR, e_mul, e_mulL, e_mulT, e_rev, e_revT, e_ix, e_eqI, e_eqS, e_eqB, e_neI, e_neS, e_neB, e_ltI, e_chain, e_len, e_abs, e_2I, e_tuple1, e_tuple2, e_tuple3, e_listT, e_listN, e_allR, e_seqT, e_seqK, e_seqL, e_isi, e_isB, e_notB, e_truth, e_next, e_drop, e_ret, e_retN, e_ifS, e_set, e_asg, e_par, e_nm, e_gsN, e_gsC, e_gTpK, e_gTpL, e_sum, e_maxL, e_minL, e_maxDef, e_int, e_intB, e_aug, e_on3, e_par3, e_newK, e_getK, e_keyI, e_keyS, e_inK, e_ninK, e_putK, e_lenK, e_lstS, e_seqX, e_gTpT, e_oN, e_oS, e_sl, e_slT, e_slL, e_finT, e_finN, e_index, e_idxT, e_idxL, e_mIx, e_ixST, e_ixSL, e_mtL, e_w, e_w1, e_w2, e_wE, e_wZ, e_itK, e_itT, e_itL, e_itT2, e_itL2, e_lc, e_for, e_wipe0, e_wipe, e_okI, e_okR, e_gSb, List.getElem?_cons_zero, List.getElem?_cons_succ, List.set_cons_zero, List.set_cons_succ, S.p_at G.ha, at0]
  have s0 := S.s_at G.ha n0
  have s0' : atI ((P.getD a []).map D.int) 0 = some (.int (pr P a 0 : Nat)) := s0
  try simp only [e_var, e_C, e_op, e_neg, e_isN, e_notN, e_and, e_or, e_not, e_test, e_tAnd, e_tOr, e_tNot, e_tYes, e_if, e_aNil, e_aCons, e_tup, e_lst, e_lstN, e_len0, e_len1, e_len2, e_len3, e_len4, e_len5, e_cb, e_on1, e_on2, e_onI, e_onB, e_onO, e_onO0, e_onOO, e_I0, e_I, e_add, e_addT, e_addS, e_addL, e_addLR, e_addRL, e_addRR, e_mul, e_mulL, e_mulT, e_rev, e_revT, e_ix, e_eqI, e_eqS, e_eqB, e_neI, e_neS, e_neB, e_ltI, e_chain, e_len, e_abs, e_2I, e_tuple1, e_tuple2, e_tuple3, e_listT, e_listN, e_allR, e_seqT, e_seqK, e_seqL, e_isi, e_isB, e_notB, e_truth, e_next, e_drop, e_ret, e_retN, e_ifS, e_set, e_asg, e_par, e_nm, e_gsN, e_gsC, e_gTpK, e_gTpL, e_sum, e_maxL, e_minL, e_maxDef, e_int, e_intB, e_aug, e_on3, e_par3, e_newK, e_getK, e_keyI, e_keyS, e_inK, e_ninK, e_putK, e_lenK, e_lstS, e_seqX, e_gTpT, e_oN, e_oS, e_sl, e_slT, e_slL, e_finT, e_finN, e_index, e_idxT, e_idxL, e_mIx, e_ixST, e_ixSL, e_mtL, e_w, e_w1, e_w2, e_wE, e_wZ, e_itK, e_itT, e_itL, e_itT2, e_itL2, e_lc, e_for, e_wipe0, e_wipe, e_okI, e_okR, e_gSb, List.getElem?_cons_zero, List.getElem?_cons_succ, List.set_cons_zero, List.set_cons_succ, s0']
  have e1 : st ++ [O.lst (sl.map D.int)] ++ [O.lst []] = st ++ [O.lst (sl.map D.int), O.lst (([] : List (Nat × Nat)).map pairN)] := by simp
  have e2 : st.length + [O.lst (sl.map D.int)].length = st.length + 1 := rfl
  rw [e1, e2]
  try dsimp only
  rw [e_seq]
  refine s_while (fun f r st' => ∃ (sl' : List Int) (b i : Nat) (pre p : List (Nat × Nat)), Go m n P sl' b i ∧ insG P R f sl' b i = some (LL, p) ∧ pre ++ p = PP ∧
      r = [some (.tup (P.map rowD)), some (.tup (R.map rowsD)), some (.tup (sl.map D.int)), some (.int (a : Nat)), some (.ref st.length), some (.ref (st.length + 1)), some (.int (b : Nat)), some (.int (pr P b i : Nat))] ∧ st' = st ++ [O.lst (sl'.map D.int), O.lst (pre.map pairN)]) F ⟨sl, a, 0, [], PP, G, eI, rfl, rfl, rfl⟩ ?_
  rintro f r st' N hN ⟨sl', b, i, pre, p, G', eG, eP, rfl, rfl⟩
  have ls := (S.pr_at G'.ha G'.hi).2
  have lsl : pr P b i < sl'.length := by rw [G'.g.lay.len]; exact ls
  have lpre : pre.length ≤ 5000 := by
    have := congrArg List.length eP
    rw [List.length_append] at this
    omega
  cases f with
  | zero => cases eG
  | succ f =>
    rcases G'.g.lay.either ls with e | ⟨k, tk⟩
    · rw [insG_free e] at eG
      cases eG
      try simp only [e_var, e_C, e_op, e_neg, e_isN, e_notN, e_and, e_or, e_not, e_test, e_tAnd, e_tOr, e_tNot, e_tYes, e_if, e_aNil, e_aCons, e_tup, e_lst, e_lstN, e_len0, e_len1, e_len2, e_len3, e_len4, e_len5, e_cb, e_on1, e_on2, e_onI, e_onB, e_onO, e_onO0, e_onOO, e_I0, e_I, e_add, e_addT, e_addS, e_addL, e_addLR, e_addRL, e_addRR, e_mul, e_mulL, e_mulT, e_rev, e_revT, e_ix, e_eqI, e_eqS, e_eqB, e_neI, e_neS, e_neB, e_ltI, e_chain, e_len, e_abs, e_2I, e_tuple1, e_tuple2, e_tuple3, e_listT, e_listN, e_allR, e_seqT, e_seqK, e_seqL, e_isi, e_isB, e_notB, e_truth, e_next, e_drop, e_ret, e_retN, e_ifS, e_set, e_asg, e_par, e_nm, e_gsN, e_gsC, e_gTpK, e_gTpL, e_sum, e_maxL, e_minL, e_maxDef, e_int, e_intB, e_aug, e_on3, e_par3, e_newK, e_getK, e_keyI, e_keyS, e_inK, e_ninK, e_putK, e_lenK, e_lstS, e_seqX, e_gTpT, e_oN, e_oS, e_sl, e_slT, e_slL, e_finT, e_finN, e_index, e_idxT, e_idxL, e_mIx, e_ixST, e_ixSL, e_mtL, e_w, e_w1, e_w2, e_wE, e_wZ, e_itK, e_itT, e_itL, e_itT2, e_itL2, e_lc, e_for, e_wipe0, e_wipe, e_okI, e_okR, e_gSb, List.getElem?_cons_zero, List.getElem?_cons_succ, List.set_cons_zero, List.set_cons_succ, seq_ref ownA, lay_at e, decide_true, Bool.not_true]
      refine iteF ?_
      try dsimp only
      rw [e_seq]
      try simp only [e_var, e_C, e_op, e_neg, e_isN, e_notN, e_and, e_or, e_not, e_test, e_tAnd, e_tOr, e_tNot, e_tYes, e_if, e_aNil, e_aCons, e_tup, e_lst, e_lstN, e_len0, e_len1, e_len2, e_len3, e_len4, e_len5, e_cb, e_on1, e_on2, e_onI, e_onB, e_onO, e_onO0, e_onOO, e_I0, e_I, e_add, e_addT, e_addS, e_addL, e_addLR, e_addRL, e_addRR, e_mul, e_mulL, e_mulT, e_rev, e_revT, e_ix, e_eqI, e_eqS, e_eqB, e_neI, e_neS, e_neB, e_ltI, e_chain, e_len, e_abs, e_2I, e_tuple1, e_tuple2, e_tuple3, e_listT, e_listN, e_allR, e_seqT, e_seqK, e_seqL, e_isi, e_isB, e_notB, e_truth, e_next, e_drop, e_ret, e_retN, e_ifS, e_set, e_asg, e_par, e_nm, e_gsN, e_gsC, e_gTpK, e_gTpL, e_sum, e_maxL, e_minL, e_maxDef, e_int, e_intB, e_aug, e_on3, e_par3, e_newK, e_getK, e_keyI, e_keyS, e_inK, e_ninK, e_putK, e_lenK, e_lstS, e_seqX, e_gTpT, e_oN, e_oS, e_sl, e_slT, e_slL, e_finT, e_finN, e_index, e_idxT, e_idxL, e_mIx, e_ixST, e_ixSL, e_mtL, e_w, e_w1, e_w2, e_wE, e_wZ, e_itK, e_itT, e_itL, e_itT2, e_itL2, e_lc, e_for, e_wipe0, e_wipe, e_okI, e_okR, e_gSb, List.getElem?_cons_zero, List.getElem?_cons_succ, List.set_cons_zero, List.set_cons_succ, seq_ref ownA, setS_ref ownA, List.length_map, ixN_lt lsl, putA]
      try dsimp only
      rw [e_seq]
      try simp only [e_var, e_C, e_op, e_neg, e_isN, e_notN, e_and, e_or, e_not, e_test, e_tAnd, e_tOr, e_tNot, e_tYes, e_if, e_aNil, e_aCons, e_tup, e_lst, e_lstN, e_len0, e_len1, e_len2, e_len3, e_len4, e_len5, e_cb, e_on1, e_on2, e_onI, e_onB, e_onO, e_onO0, e_onOO, e_I0, e_I, e_add, e_addT, e_addS, e_addL, e_addLR, e_addRL, e_addRR, e_mul, e_mulL, e_mulT, e_rev, e_revT, e_ix, e_eqI, e_eqS, e_eqB, e_neI, e_neS, e_neB, e_ltI, e_chain, e_len, e_abs, e_2I, e_tuple1, e_tuple2, e_tuple3, e_listT, e_listN, e_allR, e_seqT, e_seqK, e_seqL, e_isi, e_isB, e_notB, e_truth, e_next, e_drop, e_ret, e_retN, e_ifS, e_set, e_asg, e_par, e_nm, e_gsN, e_gsC, e_gTpK, e_gTpL, e_sum, e_maxL, e_minL, e_maxDef, e_int, e_intB, e_aug, e_on3, e_par3, e_newK, e_getK, e_keyI, e_keyS, e_inK, e_ninK, e_putK, e_lenK, e_lstS, e_seqX, e_gTpT, e_oN, e_oS, e_sl, e_slT, e_slL, e_finT, e_finN, e_index, e_idxT, e_idxL, e_mIx, e_ixST, e_ixSL, e_mtL, e_w, e_w1, e_w2, e_wE, e_wZ, e_itK, e_itT, e_itL, e_itT2, e_itL2, e_lc, e_for, e_wipe0, e_wipe, e_okI, e_okR, e_gSb, List.getElem?_cons_zero, List.getElem?_cons_succ, List.set_cons_zero, List.set_cons_succ]
      refine ⟨by unfold LstD; simp only [ownB], append_ref ownB (by rw [List.length_map]; omega) ?_⟩
      rw [putB]
      try simp only [e_var, e_C, e_op, e_neg, e_isN, e_notN, e_and, e_or, e_not, e_test, e_tAnd, e_tOr, e_tNot, e_tYes, e_if, e_aNil, e_aCons, e_tup, e_lst, e_lstN, e_len0, e_len1, e_len2, e_len3, e_len4, e_len5, e_cb, e_on1, e_on2, e_onI, e_onB, e_onO, e_onO0, e_onOO, e_I0, e_I, e_add, e_addT, e_addS, e_addL, e_addLR, e_addRL, e_addRR, e_mul, e_mulL, e_mulT, e_rev, e_revT, e_ix, e_eqI, e_eqS, e_eqB, e_neI, e_neS, e_neB, e_ltI, e_chain, e_len, e_abs, e_2I, e_tuple1, e_tuple2, e_tuple3, e_listT, e_listN, e_allR, e_seqT, e_seqK, e_seqL, e_isi, e_isB, e_notB, e_truth, e_next, e_drop, e_ret, e_retN, e_ifS, e_set, e_asg, e_par, e_nm, e_gsN, e_gsC, e_gTpK, e_gTpL, e_sum, e_maxL, e_minL, e_maxDef, e_int, e_intB, e_aug, e_on3, e_par3, e_newK, e_getK, e_keyI, e_keyS, e_inK, e_ninK, e_putK, e_lenK, e_lstS, e_seqX, e_gTpT, e_oN, e_oS, e_sl, e_slT, e_slL, e_finT, e_finN, e_index, e_idxT, e_idxL, e_mIx, e_ixST, e_ixSL, e_mtL, e_w, e_w1, e_w2, e_wE, e_wZ, e_itK, e_itT, e_itL, e_itT2, e_itL2, e_lc, e_for, e_wipe0, e_wipe, e_okI, e_okR, e_gSb, List.getElem?_cons_zero, List.getElem?_cons_succ, List.set_cons_zero, List.set_cons_succ, seq_ref ownA, seq_ref ownB]
      refine rt_drop rfl ?_ (fun i o h => .inl h) ?_
      · have z1 := clos_ints st.length (sl'.set (pr P b i) (b : Int))
        rw [List.map_set] at z1
        have z2 := clos_pairs st.length PP
        rw [← eP, List.map_append] at z2
        simp only [DL.clo, clos, Bool.and_true]
        rw [z1]
        exact z2
      · have z := q
        rw [← eP] at z
        unfold rowD pathD at z
        rw [List.map_set, List.map_append] at z
        exact z
    · have hk := (G'.g.lay.key tk).1
      rw [insG_taken tk] at eG
      have ne : k ≠ b := fun z => by subst z; exact G'.fr _ tk
      have bn := S.bt_not ls hk G'.ha ne
      try simp only [e_var, e_C, e_op, e_neg, e_isN, e_notN, e_and, e_or, e_not, e_test, e_tAnd, e_tOr, e_tNot, e_tYes, e_if, e_aNil, e_aCons, e_tup, e_lst, e_lstN, e_len0, e_len1, e_len2, e_len3, e_len4, e_len5, e_cb, e_on1, e_on2, e_onI, e_onB, e_onO, e_onO0, e_onOO, e_I0, e_I, e_add, e_addT, e_addS, e_addL, e_addLR, e_addRL, e_addRR, e_mul, e_mulL, e_mulT, e_rev, e_revT, e_ix, e_eqI, e_eqS, e_eqB, e_neI, e_neS, e_neB, e_ltI, e_chain, e_len, e_abs, e_2I, e_tuple1, e_tuple2, e_tuple3, e_listT, e_listN, e_allR, e_seqT, e_seqK, e_seqL, e_isi, e_isB, e_notB, e_truth, e_next, e_drop, e_ret, e_retN, e_ifS, e_set, e_asg, e_par, e_nm, e_gsN, e_gsC, e_gTpK, e_gTpL, e_sum, e_maxL, e_minL, e_maxDef, e_int, e_intB, e_aug, e_on3, e_par3, e_newK, e_getK, e_keyI, e_keyS, e_inK, e_ninK, e_putK, e_lenK, e_lstS, e_seqX, e_gTpT, e_oN, e_oS, e_sl, e_slT, e_slL, e_finT, e_finN, e_index, e_idxT, e_idxL, e_mIx, e_ixST, e_ixSL, e_mtL, e_w, e_w1, e_w2, e_wE, e_wZ, e_itK, e_itT, e_itL, e_itT2, e_itL2, e_lc, e_for, e_wipe0, e_wipe, e_okI, e_okR, e_gSb, List.getElem?_cons_zero, List.getElem?_cons_succ, List.set_cons_zero, List.set_cons_succ, seq_ref ownA, tk.d, S.r_at ls, S.t_at ls hk]
      refine iteT' (by rw [Bool.not_eq_true', decide_eq_false_iff_not]; omega) ?_
      try dsimp only
      rw [e_seq]
      try simp only [e_var, e_C, e_op, e_neg, e_isN, e_notN, e_and, e_or, e_not, e_test, e_tAnd, e_tOr, e_tNot, e_tYes, e_if, e_aNil, e_aCons, e_tup, e_lst, e_lstN, e_len0, e_len1, e_len2, e_len3, e_len4, e_len5, e_cb, e_on1, e_on2, e_onI, e_onB, e_onO, e_onO0, e_onOO, e_I0, e_I, e_add, e_addT, e_addS, e_addL, e_addLR, e_addRL, e_addRR, e_mul, e_mulL, e_mulT, e_rev, e_revT, e_ix, e_eqI, e_eqS, e_eqB, e_neI, e_neS, e_neB, e_ltI, e_chain, e_len, e_abs, e_2I, e_tuple1, e_tuple2, e_tuple3, e_listT, e_listN, e_allR, e_seqT, e_seqK, e_seqL, e_isi, e_isB, e_notB, e_truth, e_next, e_drop, e_ret, e_retN, e_ifS, e_set, e_asg, e_par, e_nm, e_gsN, e_gsC, e_gTpK, e_gTpL, e_sum, e_maxL, e_minL, e_maxDef, e_int, e_intB, e_aug, e_on3, e_par3, e_newK, e_getK, e_keyI, e_keyS, e_inK, e_ninK, e_putK, e_lenK, e_lstS, e_seqX, e_gTpT, e_oN, e_oS, e_sl, e_slT, e_slL, e_finT, e_finN, e_index, e_idxT, e_idxL, e_mIx, e_ixST, e_ixSL, e_mtL, e_w, e_w1, e_w2, e_wE, e_wZ, e_itK, e_itT, e_itL, e_itT2, e_itL2, e_lc, e_for, e_wipe0, e_wipe, e_okI, e_okR, e_gSb, List.getElem?_cons_zero, List.getElem?_cons_succ, List.set_cons_zero, List.set_cons_succ, seq_ref ownA, tk.d, S.r_at ls, S.t_at ls hk]
      refine nin_row ?_
      have eb : (!decide ((b : Int) ∈ (R.getD (pr P b i) []).getD k [])) = bt R (pr P b i) b k := by
        show (!bt R (pr P b i) k b) = _
        rw [bn, Bool.not_not]
      rw [eb]
      try simp only [e_var, e_C, e_op, e_neg, e_isN, e_notN, e_and, e_or, e_not, e_test, e_tAnd, e_tOr, e_tNot, e_tYes, e_if, e_aNil, e_aCons, e_tup, e_lst, e_lstN, e_len0, e_len1, e_len2, e_len3, e_len4, e_len5, e_cb, e_on1, e_on2, e_onI, e_onB, e_onO, e_onO0, e_onOO, e_I0, e_I, e_add, e_addT, e_addS, e_addL, e_addLR, e_addRL, e_addRR, e_mul, e_mulL, e_mulT, e_rev, e_revT, e_ix, e_eqI, e_eqS, e_eqB, e_neI, e_neS, e_neB, e_ltI, e_chain, e_len, e_abs, e_2I, e_tuple1, e_tuple2, e_tuple3, e_listT, e_listN, e_allR, e_seqT, e_seqK, e_seqL, e_isi, e_isB, e_notB, e_truth, e_next, e_drop, e_ret, e_retN, e_ifS, e_set, e_asg, e_par, e_nm, e_gsN, e_gsC, e_gTpK, e_gTpL, e_sum, e_maxL, e_minL, e_maxDef, e_int, e_intB, e_aug, e_on3, e_par3, e_newK, e_getK, e_keyI, e_keyS, e_inK, e_ninK, e_putK, e_lenK, e_lstS, e_seqX, e_gTpT, e_oN, e_oS, e_sl, e_slT, e_slL, e_finT, e_finN, e_index, e_idxT, e_idxL, e_mIx, e_ixST, e_ixSL, e_mtL, e_w, e_w1, e_w2, e_wE, e_wZ, e_itK, e_itT, e_itL, e_itT2, e_itL2, e_lc, e_for, e_wipe0, e_wipe, e_okI, e_okR, e_gSb, List.getElem?_cons_zero, List.getElem?_cons_succ, List.set_cons_zero, List.set_cons_succ]
      by_cases bb : bt R (pr P b i) b k = true
      · rw [if_pos bb] at eG
        obtain ⟨⟨L2, p2⟩, h2, h3⟩ := Option.map_eq_some_iff.mp eG
        cases h3
        have G2 := G'.swap S tk
        have rka := S.rk_at hk ls
        refine iteT' bb ?_
        try dsimp only
        rw [e_seq]
        try simp only [e_var, e_C, e_op, e_neg, e_isN, e_notN, e_and, e_or, e_not, e_test, e_tAnd, e_tOr, e_tNot, e_tYes, e_if, e_aNil, e_aCons, e_tup, e_lst, e_lstN, e_len0, e_len1, e_len2, e_len3, e_len4, e_len5, e_cb, e_on1, e_on2, e_onI, e_onB, e_onO, e_onO0, e_onOO, e_I0, e_I, e_add, e_addT, e_addS, e_addL, e_addLR, e_addRL, e_addRR, e_mul, e_mulL, e_mulT, e_rev, e_revT, e_ix, e_eqI, e_eqS, e_eqB, e_neI, e_neS, e_neB, e_ltI, e_chain, e_len, e_abs, e_2I, e_tuple1, e_tuple2, e_tuple3, e_listT, e_listN, e_allR, e_seqT, e_seqK, e_seqL, e_isi, e_isB, e_notB, e_truth, e_next, e_drop, e_ret, e_retN, e_ifS, e_set, e_asg, e_par, e_nm, e_gsN, e_gsC, e_gTpK, e_gTpL, e_sum, e_maxL, e_minL, e_maxDef, e_int, e_intB, e_aug, e_on3, e_par3, e_newK, e_getK, e_keyI, e_keyS, e_inK, e_ninK, e_putK, e_lenK, e_lstS, e_seqX, e_gTpT, e_oN, e_oS, e_sl, e_slT, e_slL, e_finT, e_finN, e_index, e_idxT, e_idxL, e_mIx, e_ixST, e_ixSL, e_mtL, e_w, e_w1, e_w2, e_wE, e_wZ, e_itK, e_itT, e_itL, e_itT2, e_itL2, e_lc, e_for, e_wipe0, e_wipe, e_okI, e_okR, e_gSb, List.getElem?_cons_zero, List.getElem?_cons_succ, List.set_cons_zero, List.set_cons_succ]
        refine ⟨by unfold LstD; simp only [ownB], append_ref ownB (by rw [List.length_map]; omega) ?_⟩
        rw [putB]
        try simp only [e_var, e_C, e_op, e_neg, e_isN, e_notN, e_and, e_or, e_not, e_test, e_tAnd, e_tOr, e_tNot, e_tYes, e_if, e_aNil, e_aCons, e_tup, e_lst, e_lstN, e_len0, e_len1, e_len2, e_len3, e_len4, e_len5, e_cb, e_on1, e_on2, e_onI, e_onB, e_onO, e_onO0, e_onOO, e_I0, e_I, e_add, e_addT, e_addS, e_addL, e_addLR, e_addRL, e_addRR, e_mul, e_mulL, e_mulT, e_rev, e_revT, e_ix, e_eqI, e_eqS, e_eqB, e_neI, e_neS, e_neB, e_ltI, e_chain, e_len, e_abs, e_2I, e_tuple1, e_tuple2, e_tuple3, e_listT, e_listN, e_allR, e_seqT, e_seqK, e_seqL, e_isi, e_isB, e_notB, e_truth, e_next, e_drop, e_ret, e_retN, e_ifS, e_set, e_asg, e_par, e_nm, e_gsN, e_gsC, e_gTpK, e_gTpL, e_sum, e_maxL, e_minL, e_maxDef, e_int, e_intB, e_aug, e_on3, e_par3, e_newK, e_getK, e_keyI, e_keyS, e_inK, e_ninK, e_putK, e_lenK, e_lstS, e_seqX, e_gTpT, e_oN, e_oS, e_sl, e_slT, e_slL, e_finT, e_finN, e_index, e_idxT, e_idxL, e_mIx, e_ixST, e_ixSL, e_mtL, e_w, e_w1, e_w2, e_wE, e_wZ, e_itK, e_itT, e_itL, e_itT2, e_itL2, e_lc, e_for, e_wipe0, e_wipe, e_okI, e_okR, e_gSb, List.getElem?_cons_zero, List.getElem?_cons_succ, List.set_cons_zero, List.set_cons_succ, seq_ref ownA, tk.d, setS_ref ownA, List.length_map, ixN_lt lsl, putA]
        refine ⟨rfl, ?_⟩
        try simp only [e_var, e_C, e_op, e_neg, e_isN, e_notN, e_and, e_or, e_not, e_test, e_tAnd, e_tOr, e_tNot, e_tYes, e_if, e_aNil, e_aCons, e_tup, e_lst, e_lstN, e_len0, e_len1, e_len2, e_len3, e_len4, e_len5, e_cb, e_on1, e_on2, e_onI, e_onB, e_onO, e_onO0, e_onOO, e_I0, e_I, e_add, e_addT, e_addS, e_addL, e_addLR, e_addRL, e_addRR, e_mul, e_mulL, e_mulT, e_rev, e_revT, e_ix, e_eqI, e_eqS, e_eqB, e_neI, e_neS, e_neB, e_ltI, e_chain, e_len, e_abs, e_2I, e_tuple1, e_tuple2, e_tuple3, e_listT, e_listN, e_allR, e_seqT, e_seqK, e_seqL, e_isi, e_isB, e_notB, e_truth, e_next, e_drop, e_ret, e_retN, e_ifS, e_set, e_asg, e_par, e_nm, e_gsN, e_gsC, e_gTpK, e_gTpL, e_sum, e_maxL, e_minL, e_maxDef, e_int, e_intB, e_aug, e_on3, e_par3, e_newK, e_getK, e_keyI, e_keyS, e_inK, e_ninK, e_putK, e_lenK, e_lstS, e_seqX, e_gTpT, e_oN, e_oS, e_sl, e_slT, e_slL, e_finT, e_finN, e_index, e_idxT, e_idxL, e_mIx, e_ixST, e_ixSL, e_mtL, e_w, e_w1, e_w2, e_wE, e_wZ, e_itK, e_itT, e_itL, e_itT2, e_itL2, e_lc, e_for, e_wipe0, e_wipe, e_okI, e_okR, e_gSb, List.getElem?_cons_zero, List.getElem?_cons_succ, List.set_cons_zero, List.set_cons_succ, S.p_at hk, intsD_ints, rka.2.2, true_and]
        have z := S.s_at hk G2.hi
        have e5 : ((rk P k (pr P b i) : Nat) : Int) + 1 = ((rk P k (pr P b i) + 1 : Nat) : Int) := by omega
        rw [e5, z]
        try simp only [e_var, e_C, e_op, e_neg, e_isN, e_notN, e_and, e_or, e_not, e_test, e_tAnd, e_tOr, e_tNot, e_tYes, e_if, e_aNil, e_aCons, e_tup, e_lst, e_lstN, e_len0, e_len1, e_len2, e_len3, e_len4, e_len5, e_cb, e_on1, e_on2, e_onI, e_onB, e_onO, e_onO0, e_onOO, e_I0, e_I, e_add, e_addT, e_addS, e_addL, e_addLR, e_addRL, e_addRR, e_mul, e_mulL, e_mulT, e_rev, e_revT, e_ix, e_eqI, e_eqS, e_eqB, e_neI, e_neS, e_neB, e_ltI, e_chain, e_len, e_abs, e_2I, e_tuple1, e_tuple2, e_tuple3, e_listT, e_listN, e_allR, e_seqT, e_seqK, e_seqL, e_isi, e_isB, e_notB, e_truth, e_next, e_drop, e_ret, e_retN, e_ifS, e_set, e_asg, e_par, e_nm, e_gsN, e_gsC, e_gTpK, e_gTpL, e_sum, e_maxL, e_minL, e_maxDef, e_int, e_intB, e_aug, e_on3, e_par3, e_newK, e_getK, e_keyI, e_keyS, e_inK, e_ninK, e_putK, e_lenK, e_lstS, e_seqX, e_gTpT, e_oN, e_oS, e_sl, e_slT, e_slL, e_finT, e_finN, e_index, e_idxT, e_idxL, e_mIx, e_ixST, e_ixSL, e_mtL, e_w, e_w1, e_w2, e_wE, e_wZ, e_itK, e_itT, e_itL, e_itT2, e_itL2, e_lc, e_for, e_wipe0, e_wipe, e_okI, e_okR, e_gSb, List.getElem?_cons_zero, List.getElem?_cons_succ, List.set_cons_zero, List.set_cons_succ]
        refine hN f _ _ (Nat.lt_succ_self _) (.inl ⟨sl'.set (pr P b i) (b : Int), k, rk P k (pr P b i) + 1, pre ++ [(b, pr P b i)], p2, G2, h2, by rw [List.append_assoc]; exact eP, rfl, ?_⟩)
        rw [List.map_set, List.map_append]
        rfl
      · rw [if_neg bb] at eG
        have G2 := G'.on S tk
        have rka := S.rk_at G'.ha ls
        have rkp := S.rk_pr G'.ha G'.hi
        refine iteF' (by simpa using bb) ?_
        try simp only [e_var, e_C, e_op, e_neg, e_isN, e_notN, e_and, e_or, e_not, e_test, e_tAnd, e_tOr, e_tNot, e_tYes, e_if, e_aNil, e_aCons, e_tup, e_lst, e_lstN, e_len0, e_len1, e_len2, e_len3, e_len4, e_len5, e_cb, e_on1, e_on2, e_onI, e_onB, e_onO, e_onO0, e_onOO, e_I0, e_I, e_add, e_addT, e_addS, e_addL, e_addLR, e_addRL, e_addRR, e_mul, e_mulL, e_mulT, e_rev, e_revT, e_ix, e_eqI, e_eqS, e_eqB, e_neI, e_neS, e_neB, e_ltI, e_chain, e_len, e_abs, e_2I, e_tuple1, e_tuple2, e_tuple3, e_listT, e_listN, e_allR, e_seqT, e_seqK, e_seqL, e_isi, e_isB, e_notB, e_truth, e_next, e_drop, e_ret, e_retN, e_ifS, e_set, e_asg, e_par, e_nm, e_gsN, e_gsC, e_gTpK, e_gTpL, e_sum, e_maxL, e_minL, e_maxDef, e_int, e_intB, e_aug, e_on3, e_par3, e_newK, e_getK, e_keyI, e_keyS, e_inK, e_ninK, e_putK, e_lenK, e_lstS, e_seqX, e_gTpT, e_oN, e_oS, e_sl, e_slT, e_slL, e_finT, e_finN, e_index, e_idxT, e_idxL, e_mIx, e_ixST, e_ixSL, e_mtL, e_w, e_w1, e_w2, e_wE, e_wZ, e_itK, e_itT, e_itL, e_itT2, e_itL2, e_lc, e_for, e_wipe0, e_wipe, e_okI, e_okR, e_gSb, List.getElem?_cons_zero, List.getElem?_cons_succ, List.set_cons_zero, List.set_cons_succ, S.p_at G'.ha, intsD_ints, rka.2.2, true_and, rkp]
        have z := S.s_at G'.ha G2.hi
        have e5 : ((i : Nat) : Int) + 1 = ((i + 1 : Nat) : Int) := by omega
        rw [e5, z]
        try simp only [e_var, e_C, e_op, e_neg, e_isN, e_notN, e_and, e_or, e_not, e_test, e_tAnd, e_tOr, e_tNot, e_tYes, e_if, e_aNil, e_aCons, e_tup, e_lst, e_lstN, e_len0, e_len1, e_len2, e_len3, e_len4, e_len5, e_cb, e_on1, e_on2, e_onI, e_onB, e_onO, e_onO0, e_onOO, e_I0, e_I, e_add, e_addT, e_addS, e_addL, e_addLR, e_addRL, e_addRR, e_mul, e_mulL, e_mulT, e_rev, e_revT, e_ix, e_eqI, e_eqS, e_eqB, e_neI, e_neS, e_neB, e_ltI, e_chain, e_len, e_abs, e_2I, e_tuple1, e_tuple2, e_tuple3, e_listT, e_listN, e_allR, e_seqT, e_seqK, e_seqL, e_isi, e_isB, e_notB, e_truth, e_next, e_drop, e_ret, e_retN, e_ifS, e_set, e_asg, e_par, e_nm, e_gsN, e_gsC, e_gTpK, e_gTpL, e_sum, e_maxL, e_minL, e_maxDef, e_int, e_intB, e_aug, e_on3, e_par3, e_newK, e_getK, e_keyI, e_keyS, e_inK, e_ninK, e_putK, e_lenK, e_lstS, e_seqX, e_gTpT, e_oN, e_oS, e_sl, e_slT, e_slL, e_finT, e_finN, e_index, e_idxT, e_idxL, e_mIx, e_ixST, e_ixSL, e_mtL, e_w, e_w1, e_w2, e_wE, e_wZ, e_itK, e_itT, e_itL, e_itT2, e_itL2, e_lc, e_for, e_wipe0, e_wipe, e_okI, e_okR, e_gSb, List.getElem?_cons_zero, List.getElem?_cons_succ, List.set_cons_zero, List.set_cons_succ]
        exact hN f _ _ (Nat.lt_succ_self _) (.inl ⟨sl', b, i + 1, pre, p, G2, eG, eP, rfl, rfl⟩)
end
end DL
namespace DL
open PySem PySem.Spec PyProof.Rows L2 LamX PySem.W SL
structure Hist (m n : Nat) (h : List Nat) : Prop where
  nd : h.Nodup
  lt : ∀ k ∈ h, k < m
  few : h.length ≤ n
def histD (h : List Nat) : D := .tup (h.map fun k : Nat => .int (k : Nat))
def layG (P : List (List Int)) (R : List (List (List Int))) (sl : List Int) (h : List Nat) : List Int := h.foldl (fun sl a => (ins P R sl a).1) sl
def emp (n : Nat) : List Int := List.replicate n (-1)
def layF (P : List (List Int)) (R : List (List (List Int))) (h : List Nat) : List Int := layG P R (emp R.length) h
section
variable {m n : Nat} {P : List (List Int)} {R : List (List (List Int))}
theorem emp_at {n s k : Nat} : ¬ At (emp n) s k := by
  unfold At emp
  rw [List.getElem?_replicate]
  split
  · intro z
    have := Option.some.inj z
    omega
  · intro z
    cases z
theorem emp_good (m n : Nat) (P : List (List Int)) : Good m n P (emp n) := by
  refine ⟨⟨by unfold emp; simp, fun x hx => ?_, fun s t k h _ => absurd h emp_at⟩, fun s k h => absurd h emp_at⟩
  unfold emp at hx
  rw [List.eq_of_mem_replicate hx]
  omega
theorem lay_room {sl : List Int} {q : List Nat} (L : Lay m n sl) (ks : ∀ s k, At sl s k → k ∈ q) (lt : q.length < n) : ∃ t, t < n ∧ sl[t]? = some (-1) := by
  apply Classical.byContradiction
  intro no
  have all : ∀ t, t < n → ∃ k, At sl t k := fun t ht => by
    rcases L.either ht with e | h
    · exact absurd ⟨t, ht, e⟩ no
    · exact h
  have nd : sl.Nodup := by
    refine List.pairwise_iff_getElem.mpr fun i j hi hj lt => ?_
    intro e
    rw [L.len] at hi hj
    obtain ⟨k, hk⟩ := all i hi
    have h2 : At sl j k := by
      unfold At at hk ⊢
      rw [List.getElem?_eq_getElem (by rw [L.len]; exact hj), ← e, ← hk, List.getElem?_eq_getElem (by rw [L.len]; exact hi)]
    have := L.inj _ _ _ hk h2
    omega
  have z := sub_len (ys := q.map fun k : Nat => (k : Int)) nd fun x hx => by
    obtain ⟨i, hi⟩ := List.mem_iff_getElem?.mp hx
    have li := (List.getElem?_eq_some_iff.mp hi).1
    rw [L.len] at li
    obtain ⟨k, hk⟩ := all i li
    have : x = (k : Int) := by
      unfold At at hk
      rw [hi] at hk
      exact Option.some.inj hk
    rw [this]
    exact List.mem_map.mpr ⟨k, ks _ _ hk, rfl⟩
  rw [List.length_map, L.len] at z
  omega
theorem step_go (S : Setg m n P R) {sl : List Int} {q : List Nat} {a : Nat} (g : Good m n P sl) (ks : ∀ k, (∃ s, At sl s k) ↔ k ∈ q) (ha : a < m) (na : a ∉ q) (lt : q.length < n) : Go m n P sl a 0 :=
  Go.start g ha (fun t h => na ((ks a).mp ⟨t, h⟩)) (lay_room g.lay (fun s k h => (ks k).mp ⟨s, h⟩) lt)
theorem step_good (S : Setg m n P R) {sl : List Int} {q : List Nat} {a : Nat} (G : Go m n P sl a 0) (ks : ∀ k, (∃ s, At sl s k) ↔ k ∈ q) : Good m n P (ins P R sl a).1 ∧ ∀ k, (∃ s, At (ins P R sl a).1 s k) ↔ k ∈ q ++ [a] := by
  have e := ins_eq S G
  obtain ⟨g, k2, _⟩ := insG_good S _ _ _ _ (ins P R sl a).1 (ins P R sl a).2 G e
  refine ⟨g, fun k => ?_⟩
  rw [k2, List.mem_append, List.mem_singleton, ks]
  exact ⟨fun h => h.elim .inr .inl, fun h => h.elim .inr .inl⟩
theorem layG_good (S : Setg m n P R) : ∀ (h q : List Nat) (sl : List Int), Good m n P sl → (∀ k, (∃ s, At sl s k) ↔ k ∈ q) → Hist m n (q ++ h) → Good m n P (layG P R sl h) ∧ ∀ k, (∃ s, At (layG P R sl h) s k) ↔ k ∈ q ++ h
  | [], q, sl, g, ks, H => by
    rw [List.append_nil]
    exact ⟨g, ks⟩
  | a :: h, q, sl, g, ks, H => by
    have nd := H.nd
    rw [List.nodup_append] at nd
    have fw := H.few
    rw [List.length_append, List.length_cons] at fw
    have G := step_go S g ks (H.lt a (by simp)) (fun z => nd.2.2 a z a (by simp) rfl) (by omega)
    obtain ⟨g2, k2⟩ := step_good S G ks
    have z := layG_good S h (q ++ [a]) _ g2 k2 (by rw [List.append_assoc]; exact H)
    rw [List.append_assoc] at z
    exact z
theorem layF_good (S : Setg m n P R) {h : List Nat} (H : Hist m n h) : Good m n P (layF P R h) ∧ ∀ k, (∃ s, At (layF P R h) s k) ↔ k ∈ h := by
  have z := layG_good S h [] (emp R.length) (by rw [S.rl]; exact emp_good m n P) (fun k => ⟨fun ⟨s, hs⟩ => absurd hs emp_at, fun h => by cases h⟩) H
  exact z
theorem layG_app (sl : List Int) (a b : List Nat) : layG P R sl (a ++ b) = layG P R (layG P R sl a) b := by unfold layG; rw [List.foldl_append]
def g_layout : DRs := fun ds st Q => ∃ (m n : Nat) (P : List (List Int)) (R : List (List (List Int))) (h : List Nat), ds = [rowsD P, tabsD R, histD h] ∧ Setg m n P R ∧ m ≤ 60 ∧ n ≤ 60 ∧ 0 < n ∧ Hist m n h ∧ Q (rowD (layF P R h)) st
theorem ar_layout (ds : List D) (st : DSt) (Q : DK) (h : g_layout ds st Q) : ds.length = 3 := by
  obtain ⟨_, _, _, _, _, rfl, _⟩ := h
  rfl
theorem emp_map (n : Nat) : (List.replicate n [D.int (-1)]).flatten = (emp n).map D.int := by unfold emp; rw [rep_flat, List.map_replicate]
set_option maxHeartbeats 1000000 in
theorem sem_layout (ds : List D) (st : DSt) (Q : DK) (h : g_layout ds st Q) : F_layout_of g_insert { nx := fun _ st' => Rt st Q .non st', rt := Rt st Q } (startD 5 ds) st := by
  obtain ⟨m, n, P, R, h, rfl, S, m60, n60, n0, H, q⟩ := h
  have st5 : startD 5 [rowsD P, tabsD R, histD h] = [some (.tup (P.map rowD)), some (.tup (R.map rowsD)), some (.tup (h.map fun k : Nat => .int (k : Nat))), none, none] := rfl
  have rl := S.rl
  simp only [F_layout_of, st5]
  try dsimp only
  rw [e_seq]
  try simp only [e_var, e_C, e_op, e_neg, e_isN, e_notN, e_and, e_or, e_not, e_test, e_tAnd, e_tOr, e_tNot, e_tYes, e_if, e_aNil, e_aCons, e_tup, e_lst, e_lstN, e_len0, e_len1, e_len2, e_len3, e_len4, e_len5, e_cb, e_on1, e_on2, e_onI, e_onB, e_onO, e_onO0, e_onOO, e_I0, e_I, e_add, e_addT, e_addS, e_addL, e_addLR, e_addRL, e_addRR, e_mul, e_mulL, e_mulT, e_rev, e_revT, e_ix, e_eqI, e_eqS, e_eqB, e_neI, e_neS, e_neB, e_ltI, e_chain, e_len, e_abs, e_2I, e_tuple1, e_tuple2, e_tuple3, e_listT, e_listN, e_allR, e_seqT, e_seqK, e_seqL, e_isi, e_isB, e_notB, e_truth, e_next, e_drop, e_ret, e_retN, e_ifS, e_set, e_asg, e_par, e_nm, e_gsN, e_gsC, e_gTpK, e_gTpL, e_sum, e_maxL, e_minL, e_maxDef, e_int, e_intB, e_aug, e_on3, e_par3, e_newK, e_getK, e_keyI, e_keyS, e_inK, e_ninK, e_putK, e_lenK, e_lstS, e_seqX, e_gTpT, e_oN, e_oS, e_sl, e_slT, e_slL, e_finT, e_finN, e_index, e_idxT, e_idxL, e_mIx, e_ixST, e_ixSL, e_mtL, e_w, e_w1, e_w2, e_wE, e_wZ, e_itK, e_itT, e_itL, e_itT2, e_itL2, e_lc, e_for, e_wipe0, e_wipe, e_okI, e_okR, e_gSb, List.getElem?_cons_zero, List.getElem?_cons_succ, List.set_cons_zero, List.set_cons_succ, List.length_map, rl, Int.toNat_natCast]
  refine ⟨fun z => (by cases z), by omega, by omega, by simp, ?_⟩
  rw [emp_map]
  try dsimp only
  rw [e_seq]
  try simp only [e_var, e_C, e_op, e_neg, e_isN, e_notN, e_and, e_or, e_not, e_test, e_tAnd, e_tOr, e_tNot, e_tYes, e_if, e_aNil, e_aCons, e_tup, e_lst, e_lstN, e_len0, e_len1, e_len2, e_len3, e_len4, e_len5, e_cb, e_on1, e_on2, e_onI, e_onB, e_onO, e_onO0, e_onOO, e_I0, e_I, e_add, e_addT, e_addS, e_addL, e_addLR, e_addRL, e_addRR, e_mul, e_mulL, e_mulT, e_rev, e_revT, e_ix, e_eqI, e_eqS, e_eqB, e_neI, e_neS, e_neB, e_ltI, e_chain, e_len, e_abs, e_2I, e_tuple1, e_tuple2, e_tuple3, e_listT, e_listN, e_allR, e_seqT, e_seqK, e_seqL, e_isi, e_isB, e_notB, e_truth, e_next, e_drop, e_ret, e_retN, e_ifS, e_set, e_asg, e_par, e_nm, e_gsN, e_gsC, e_gTpK, e_gTpL, e_sum, e_maxL, e_minL, e_maxDef, e_int, e_intB, e_aug, e_on3, e_par3, e_newK, e_getK, e_keyI, e_keyS, e_inK, e_ninK, e_putK, e_lenK, e_lstS, e_seqX, e_gTpT, e_oN, e_oS, e_sl, e_slT, e_slL, e_finT, e_finN, e_index, e_idxT, e_idxL, e_mIx, e_ixST, e_ixSL, e_mtL, e_w, e_w1, e_w2, e_wE, e_wZ, e_itK, e_itT, e_itL, e_itT2, e_itL2, e_lc, e_for, e_wipe0, e_wipe, e_okI, e_okR, e_gSb, List.getElem?_cons_zero, List.getElem?_cons_succ, List.set_cons_zero, List.set_cons_succ]
  refine for_list (fun k : Nat => D.int (k : Nat)) (fun left r st' => ∃ (dn : List Nat) (x4 : Option D), dn ++ left = h ∧ r = [some (.tup (P.map rowD)), some (.tup (R.map rowsD)), some (.tup (h.map fun k : Nat => .int (k : Nat))), some (.tup ((layF P R dn).map D.int)), x4] ∧ st = st') ?_ ?_ h _ _ ⟨[], _, rfl, by unfold layF layG; rw [rl]; rfl, rfl⟩
  · rintro a left r st' N hN ⟨dn, x4, e, rfl, rfl⟩
    have Hd : Hist m n dn := by
      have nd := H.nd
      have lt := H.lt
      have fw := H.few
      rw [← e] at nd lt fw
      rw [List.nodup_append] at nd
      rw [List.length_append] at fw
      exact ⟨nd.1, fun k hk => lt k (List.mem_append_left _ hk), by omega⟩
    obtain ⟨g, ks⟩ := layF_good S Hd
    have nd := H.nd
    have fw := H.few
    rw [← e] at nd fw
    rw [List.nodup_append] at nd
    rw [List.length_append, List.length_cons] at fw
    have G := step_go S g ks (H.lt a (by rw [← e]; simp)) (fun z => nd.2.2 a z a (by simp) rfl) (by omega)
    try simp only [e_var, e_C, e_op, e_neg, e_isN, e_notN, e_and, e_or, e_not, e_test, e_tAnd, e_tOr, e_tNot, e_tYes, e_if, e_aNil, e_aCons, e_tup, e_lst, e_lstN, e_len0, e_len1, e_len2, e_len3, e_len4, e_len5, e_cb, e_on1, e_on2, e_onI, e_onB, e_onO, e_onO0, e_onOO, e_I0, e_I, e_add, e_addT, e_addS, e_addL, e_addLR, e_addRL, e_addRR, e_mul, e_mulL, e_mulT, e_rev, e_revT, e_ix, e_eqI, e_eqS, e_eqB, e_neI, e_neS, e_neB, e_ltI, e_chain, e_len, e_abs, e_2I, e_tuple1, e_tuple2, e_tuple3, e_listT, e_listN, e_allR, e_seqT, e_seqK, e_seqL, e_isi, e_isB, e_notB, e_truth, e_next, e_drop, e_ret, e_retN, e_ifS, e_set, e_asg, e_par, e_nm, e_gsN, e_gsC, e_gTpK, e_gTpL, e_sum, e_maxL, e_minL, e_maxDef, e_int, e_intB, e_aug, e_on3, e_par3, e_newK, e_getK, e_keyI, e_keyS, e_inK, e_ninK, e_putK, e_lenK, e_lstS, e_seqX, e_gTpT, e_oN, e_oS, e_sl, e_slT, e_slL, e_finT, e_finN, e_index, e_idxT, e_idxL, e_mIx, e_ixST, e_ixSL, e_mtL, e_w, e_w1, e_w2, e_wE, e_wZ, e_itK, e_itT, e_itL, e_itT2, e_itL2, e_lc, e_for, e_wipe0, e_wipe, e_okI, e_okR, e_gSb, List.getElem?_cons_zero, List.getElem?_cons_succ, List.set_cons_zero, List.set_cons_succ]
    refine ⟨m, n, P, R, layF P R dn, a, rfl, S, m60, n60, G, ?_⟩
    try simp only [e_var, e_C, e_op, e_neg, e_isN, e_notN, e_and, e_or, e_not, e_test, e_tAnd, e_tOr, e_tNot, e_tYes, e_if, e_aNil, e_aCons, e_tup, e_lst, e_lstN, e_len0, e_len1, e_len2, e_len3, e_len4, e_len5, e_cb, e_on1, e_on2, e_onI, e_onB, e_onO, e_onO0, e_onOO, e_I0, e_I, e_add, e_addT, e_addS, e_addL, e_addLR, e_addRL, e_addRR, e_mul, e_mulL, e_mulT, e_rev, e_revT, e_ix, e_eqI, e_eqS, e_eqB, e_neI, e_neS, e_neB, e_ltI, e_chain, e_len, e_abs, e_2I, e_tuple1, e_tuple2, e_tuple3, e_listT, e_listN, e_allR, e_seqT, e_seqK, e_seqL, e_isi, e_isB, e_notB, e_truth, e_next, e_drop, e_ret, e_retN, e_ifS, e_set, e_asg, e_par, e_nm, e_gsN, e_gsC, e_gTpK, e_gTpL, e_sum, e_maxL, e_minL, e_maxDef, e_int, e_intB, e_aug, e_on3, e_par3, e_newK, e_getK, e_keyI, e_keyS, e_inK, e_ninK, e_putK, e_lenK, e_lstS, e_seqX, e_gTpT, e_oN, e_oS, e_sl, e_slT, e_slL, e_finT, e_finN, e_index, e_idxT, e_idxL, e_mIx, e_ixST, e_ixSL, e_mtL, e_w, e_w1, e_w2, e_wE, e_wZ, e_itK, e_itT, e_itL, e_itT2, e_itL2, e_lc, e_for, e_wipe0, e_wipe, e_okI, e_okR, e_gSb, List.getElem?_cons_zero, List.getElem?_cons_succ, List.set_cons_zero, List.set_cons_succ, at0]
    refine hN _ _ (.inl ⟨dn ++ [a], some (.int (a : Nat)), by rw [List.append_assoc]; exact e, ?_, rfl⟩)
    have z : layF P R (dn ++ [a]) = (ins P R (layF P R dn) a).1 := by
      unfold layF
      rw [layG_app]
      rfl
    rw [z]
    rfl
  · rintro r st' ⟨dn, x4, e, rfl, rfl⟩
    rw [List.append_nil] at e
    subst e
    try simp only [e_var, e_C, e_op, e_neg, e_isN, e_notN, e_and, e_or, e_not, e_test, e_tAnd, e_tOr, e_tNot, e_tYes, e_if, e_aNil, e_aCons, e_tup, e_lst, e_lstN, e_len0, e_len1, e_len2, e_len3, e_len4, e_len5, e_cb, e_on1, e_on2, e_onI, e_onB, e_onO, e_onO0, e_onOO, e_I0, e_I, e_add, e_addT, e_addS, e_addL, e_addLR, e_addRL, e_addRR, e_mul, e_mulL, e_mulT, e_rev, e_revT, e_ix, e_eqI, e_eqS, e_eqB, e_neI, e_neS, e_neB, e_ltI, e_chain, e_len, e_abs, e_2I, e_tuple1, e_tuple2, e_tuple3, e_listT, e_listN, e_allR, e_seqT, e_seqK, e_seqL, e_isi, e_isB, e_notB, e_truth, e_next, e_drop, e_ret, e_retN, e_ifS, e_set, e_asg, e_par, e_nm, e_gsN, e_gsC, e_gTpK, e_gTpL, e_sum, e_maxL, e_minL, e_maxDef, e_int, e_intB, e_aug, e_on3, e_par3, e_newK, e_getK, e_keyI, e_keyS, e_inK, e_ninK, e_putK, e_lenK, e_lstS, e_seqX, e_gTpT, e_oN, e_oS, e_sl, e_slT, e_slL, e_finT, e_finN, e_index, e_idxT, e_idxL, e_mIx, e_ixST, e_ixSL, e_mtL, e_w, e_w1, e_w2, e_wE, e_wZ, e_itK, e_itT, e_itL, e_itT2, e_itL2, e_lc, e_for, e_wipe0, e_wipe, e_okI, e_okR, e_gSb, List.getElem?_cons_zero, List.getElem?_cons_succ, List.set_cons_zero, List.set_cons_succ]
    exact .inl q
end
end DL
namespace DL
open PySem PySem.Spec PyProof.Rows L2 LamX PySem.W SL
def Trn (m n : Nat) (R : List (List (List Int))) : Prop := ∀ s a b c, s < n → a < m → b < m → c < m → bt R s a b = true → bt R s b c = true → bt R s a c = true
section
variable {m n : Nat} {P : List (List Int)} {R : List (List (List Int))}
theorem Setg.trn (S : Setg m n P R) (all : ∀ t ∈ R, noRing t = true) : Trn m n R := fun s a b c hs ha hb hc h1 h2 => by
  have tb := S.tb hs
  have no := all _ (getD_memL (d := []) (by rw [S.rl]; exact hs) : R.getD s [] ∈ R)
  unfold bt at h1 h2 ⊢
  have h1' := of_decide_eq_true h1
  have h2' := of_decide_eq_true h2
  exact decide_eq_true (tb.trans no ha hb hc h1' h2')
def Stb (P : List (List Int)) (R : List (List (List Int))) (sl : List Int) : Prop := ∀ s k, At sl s k → ∀ j, j < rk P k s → ∀ k', At sl (pr P k j) k' → bt R (pr P k j) k' k = true
def AskB (P : List (List Int)) (R : List (List (List Int))) (sl : List Int) (a i : Nat) : Prop := ∀ j, j < i → ∀ k', At sl (pr P a j) k' → bt R (pr P a j) k' a = true
theorem pr_ne (S : Setg m n P R) {a i j : Nat} (ha : a < m) (hi : i < n) (hj : j < n) (ne : j ≠ i) : pr P a j ≠ pr P a i := fun e => by
  have := S.rk_pr ha hj
  rw [e, S.rk_pr ha hi] at this
  exact ne this.symm
theorem insG_stb (S : Setg m n P R) (T : Trn m n R) : ∀ (f : Nat) (sl : List Int) (a i : Nat) (L : List Int) (p : List (Nat × Nat)), Go m n P sl a i → Stb P R sl → AskB P R sl a i → insG P R f sl a i = some (L, p) → Stb P R L
  | 0, sl, a, i, L, p, G, _, _, h => by cases h
  | f + 1, sl, a, i, L, p, G, st, ak, h => by
    have ls := (S.pr_at G.ha G.hi).2
    have ls' : pr P a i < sl.length := by rw [G.g.lay.len]; exact ls
    rcases G.g.lay.either ls with e | ⟨k, tk⟩
    · rw [insG_free e] at h
      cases h
      intro s x hx j lj x' hx'
      rcases (at_set ls').mp hx with ⟨rfl, rfl⟩ | ⟨ne, hx⟩
      · rw [S.rk_pr G.ha G.hi] at lj
        rcases (at_set ls').mp hx' with ⟨z, _⟩ | ⟨_, hx'⟩
        · exact absurd z (pr_ne S G.ha G.hi (by have := G.hi; omega) (by omega))
        · exact ak j lj x' hx'
      · rcases (at_set ls').mp hx' with ⟨z, _⟩ | ⟨_, hx'⟩
        · obtain ⟨y, hy⟩ := G.g.ah s x hx j lj
          rw [z] at hy
          exact absurd e hy.ne
        · exact st s x hx j lj x' hx'
    · have hk := (G.g.lay.key tk).1
      have ak' : a ≠ k := fun z => by subst z; exact G.fr _ tk
      rw [insG_taken tk] at h
      by_cases b : bt R (pr P a i) a k = true
      · rw [if_pos b] at h
        obtain ⟨⟨L2, p2⟩, h2, h3⟩ := Option.map_eq_some_iff.mp h
        cases h3
        have pk := S.pr_rk hk ls
        have lr := (S.rk_at hk ls).2.1
        refine insG_stb S T f _ _ _ _ p2 (G.swap S tk) ?_ ?_ h2
        · intro s x hx j lj x' hx'
          rcases (at_set ls').mp hx with ⟨rfl, rfl⟩ | ⟨ne, hy⟩
          · rw [S.rk_pr G.ha G.hi] at lj
            rcases (at_set ls').mp hx' with ⟨z, _⟩ | ⟨_, hx'⟩
            · exact absurd z (pr_ne S G.ha G.hi (by have := G.hi; omega) (by omega))
            · exact ak j lj x' hx'
          · rcases (at_set ls').mp hx' with ⟨z, ex⟩ | ⟨_, hx'⟩
            · rw [z, ex]
              have q := st s x hy j lj k (by rw [z]; exact tk)
              rw [z] at q
              exact T _ _ _ _ ls G.ha hk (G.g.lay.key hy).1 b q
            · exact st s x hy j lj x' hx'
        · intro j lj x' hx'
          rcases Nat.lt_or_ge j (rk P k (pr P a i)) with w | w
          · rcases (at_set ls').mp hx' with ⟨z, _⟩ | ⟨_, hx'⟩
            · have := S.rk_pr hk (i := j) (by omega)
              rw [z] at this
              omega
            · exact st _ k tk j w x' hx'
          · rw [show j = rk P k (pr P a i) by omega, pk] at hx' ⊢
            rcases (at_set ls').mp hx' with ⟨_, rfl⟩ | ⟨z, _⟩
            · exact b
            · exact absurd rfl z
      · rw [if_neg b] at h
        refine insG_stb S T f _ _ _ L p (G.on S tk) st ?_ h
        intro j lj x' hx'
        rcases Nat.lt_or_ge j i with w | w
        · exact ak j w x' hx'
        · rw [show j = i by omega] at hx' ⊢
          rw [hx'.one tk, S.bt_not ls hk G.ha ak'.symm]
          simpa using b
structure Fix (m n : Nat) (P : List (List Int)) (R : List (List (List Int))) (K : Nat → Prop) (M : List Int) : Prop where
  g : Good m n P M
  ks : ∀ k, K k → ∃ s, At M s k
  st : Stb P R M
def Below (P : List (List Int)) (K : Nat → Prop) (M sl : List Int) : Prop := ∀ s k, At sl s k → K k ∧ ∀ u, At M u k → rk P k s ≤ rk P k u
theorem lose (S : Setg m n P R) {K : Nat → Prop} {M : List Int} (F : Fix m n P R K M) {t w x : Nat} (ht : t < n) (hw : w < m) (hx : x < m) (ne : w ≠ x) (kw : K w) (b : bt R t w x = true) (lw : ∀ u, At M u w → rk P w t ≤ rk P w u) : ¬ At M t x := fun hM => by
  obtain ⟨v, hv⟩ := F.ks w kw
  have hvn := (F.g.lay.key hv).2
  have vt : v ≠ t := fun z => by rw [z] at hv; exact ne (hv.one hM)
  have l1 := lw v hv
  have l2 : rk P w t ≠ rk P w v := fun z => vt (S.rk_inj hw ht hvn z).symm
  have q := F.st v w hv (rk P w t) (by omega) x (by rw [S.pr_rk hw ht]; exact hM)
  rw [S.pr_rk hw ht, S.bt_not ht hx hw ne.symm, b] at q
  cases q
theorem insG_below (S : Setg m n P R) {K : Nat → Prop} {M : List Int} (F : Fix m n P R K M) : ∀ (f : Nat) (sl : List Int) (a i : Nat) (L : List Int) (p : List (Nat × Nat)), Go m n P sl a i → Below P K M sl → K a → (∀ u, At M u a → i ≤ rk P a u) → insG P R f sl a i = some (L, p) → Below P K M L
  | 0, sl, a, i, L, p, G, _, _, _, h => by cases h
  | f + 1, sl, a, i, L, p, G, bl, ka, la, h => by
    have ls := (S.pr_at G.ha G.hi).2
    have ls' : pr P a i < sl.length := by rw [G.g.lay.len]; exact ls
    have ra := S.rk_pr G.ha G.hi
    have put : Below P K M (sl.set (pr P a i) (a : Int)) := fun s x hx => by
      rcases (at_set ls').mp hx with ⟨rfl, rfl⟩ | ⟨_, hx⟩
      · rw [ra]; exact ⟨ka, la⟩
      · exact bl s x hx
    rcases G.g.lay.either ls with e | ⟨k, tk⟩
    · rw [insG_free e] at h
      cases h
      exact put
    · have hk := (G.g.lay.key tk).1
      have ak' : a ≠ k := fun z => by subst z; exact G.fr _ tk
      obtain ⟨kk, lk⟩ := bl _ _ tk
      rw [insG_taken tk] at h
      by_cases b : bt R (pr P a i) a k = true
      · rw [if_pos b] at h
        obtain ⟨⟨L2, p2⟩, h2, h3⟩ := Option.map_eq_some_iff.mp h
        cases h3
        refine insG_below S F f _ _ _ _ p2 (G.swap S tk) put kk (fun u hu => ?_) h2
        have l1 := lk u hu
        have no := lose S F ls G.ha hk ak' ka b (fun u hu => by rw [ra]; exact la u hu)
        have l2 : rk P k (pr P a i) ≠ rk P k u := fun z => no (by rw [S.rk_inj hk ls (F.g.lay.key hu).2 z]; exact hu)
        omega
      · rw [if_neg b] at h
        refine insG_below S F f _ _ _ L p (G.on S tk) bl ka (fun u hu => ?_) h
        have l1 := la u hu
        have b2 : bt R (pr P a i) k a = true := by
          rw [S.bt_not ls hk G.ha ak'.symm]
          simpa using b
        have no := lose S F ls hk G.ha ak'.symm kk b2 lk
        have l2 : i ≠ rk P a u := fun z => no (by
          have : rk P a (pr P a i) = rk P a u := by rw [ra]; exact z
          rw [S.rk_inj G.ha ls (F.g.lay.key hu).2 this]
          exact hu)
        omega
theorem emp_stb : Stb P R (emp n) := fun s k h => absurd h emp_at
theorem layG_stb (S : Setg m n P R) (T : Trn m n R) : ∀ (h q : List Nat) (sl : List Int), Good m n P sl → (∀ k, (∃ s, At sl s k) ↔ k ∈ q) → Hist m n (q ++ h) → Stb P R sl → Stb P R (layG P R sl h)
  | [], q, sl, g, ks, H, st => st
  | a :: h, q, sl, g, ks, H, st => by
    have nd := H.nd
    rw [List.nodup_append] at nd
    have fw := H.few
    rw [List.length_append, List.length_cons] at fw
    have G := step_go S g ks (H.lt a (by simp)) (fun z => nd.2.2 a z a (by simp) rfl) (by omega)
    obtain ⟨g2, k2⟩ := step_good S G ks
    exact layG_stb S T h (q ++ [a]) _ g2 k2 (by rw [List.append_assoc]; exact H) (insG_stb S T _ _ _ _ _ _ G st (fun j lj => absurd lj (Nat.not_lt_zero _)) (ins_eq S G))
theorem layF_stb (S : Setg m n P R) (T : Trn m n R) {h : List Nat} (H : Hist m n h) : Stb P R (layF P R h) :=
  layG_stb S T h [] (emp R.length) (by rw [S.rl]; exact emp_good m n P) (fun k => ⟨fun ⟨s, hs⟩ => absurd hs emp_at, fun h => by cases h⟩) H (by rw [S.rl]; exact emp_stb)
theorem layG_below (S : Setg m n P R) {K : Nat → Prop} {M : List Int} (F : Fix m n P R K M) : ∀ (h q : List Nat) (sl : List Int), Good m n P sl → (∀ k, (∃ s, At sl s k) ↔ k ∈ q) → Hist m n (q ++ h) → (∀ k ∈ h, K k) → Below P K M sl → Below P K M (layG P R sl h)
  | [], q, sl, g, ks, H, _, st => st
  | a :: h, q, sl, g, ks, H, hK, bl => by
    have nd := H.nd
    rw [List.nodup_append] at nd
    have fw := H.few
    rw [List.length_append, List.length_cons] at fw
    have G := step_go S g ks (H.lt a (by simp)) (fun z => nd.2.2 a z a (by simp) rfl) (by omega)
    obtain ⟨g2, k2⟩ := step_good S G ks
    exact layG_below S F h (q ++ [a]) _ g2 k2 (by rw [List.append_assoc]; exact H) (fun k hk => hK k (List.mem_cons_of_mem _ hk)) (insG_below S F _ _ _ _ _ _ G bl (hK a List.mem_cons_self) (fun _ _ => Nat.zero_le _) (ins_eq S G))
theorem layF_fix (S : Setg m n P R) (T : Trn m n R) {h : List Nat} (H : Hist m n h) : Fix m n P R (· ∈ h) (layF P R h) := ⟨(layF_good S H).1, fun k hk => ((layF_good S H).2 k).mpr hk, layF_stb S T H⟩
theorem layF_below (S : Setg m n P R) {K : Nat → Prop} {M : List Int} (F : Fix m n P R K M) {h : List Nat} (H : Hist m n h) (hK : ∀ k ∈ h, K k) : Below P K M (layF P R h) :=
  layG_below S F h [] (emp R.length) (by rw [S.rl]; exact emp_good m n P) (fun k => ⟨fun ⟨s, hs⟩ => absurd hs emp_at, fun h => by cases h⟩) H hK (fun s k hk => by rw [S.rl] at hk; exact absurd hk emp_at)
theorem layF_any (S : Setg m n P R) (T : Trn m n R) {h h2 : List Nat} (H : Hist m n h) (H2 : Hist m n h2) (same : ∀ k, k ∈ h ↔ k ∈ h2) : layF P R h = layF P R h2 := by
  have b1 := layF_below S (layF_fix S T H2) H (fun k hk => (same k).mp hk)
  have b2 := layF_below S (layF_fix S T H) H2 (fun k hk => (same k).mpr hk)
  obtain ⟨g1, k1⟩ := layF_good S H
  obtain ⟨g2, k2⟩ := layF_good S H2
  have half : ∀ s k, At (layF P R h) s k → At (layF P R h2) s k := fun s k hs => by
    obtain ⟨u, hu⟩ := (k2 k).mpr ((same k).mp ((k1 k).mp ⟨s, hs⟩))
    have l1 := (b1 s k hs).2 u hu
    have l2 := (b2 u k hu).2 s hs
    have hk := (g1.lay.key hs).1
    have e := S.rk_inj hk (g1.lay.key hs).2 (g2.lay.key hu).2 (by omega)
    rw [e]
    exact hu
  refine List.ext_getElem? fun s => ?_
  by_cases ls : s < n
  · rcases g1.lay.either ls with e | ⟨k, hk⟩
    · rcases g2.lay.either ls with e2 | ⟨k, hk⟩
      · rw [e, e2]
      · obtain ⟨u, hu⟩ := (k1 k).mpr ((same k).mpr ((k2 k).mp ⟨s, hk⟩))
        have := g2.lay.inj _ _ _ (half u k hu) hk
        rw [this] at hu
        exact absurd e hu.ne
    · have := half s k hk
      unfold At at hk this
      rw [hk, this]
  · rw [List.getElem?_eq_none (by rw [g1.lay.len]; omega), List.getElem?_eq_none (by rw [g2.lay.len]; omega)]
end
end DL
namespace DL
open PySem PySem.Spec PyProof.Rows L2 LamX PySem.W SL
theorem sem_takeA (ds : List D) (st : DSt) (Q : DK) (h : g_take ds st Q) : F__law_take_v3 { nx := fun _ st' => Rt st Q .non st', rt := Rt st Q } (startD 5 ds) st := by
  obtain ⟨p, z, n, rfl, ⟨o, e, g, m, c, rfl, g0, g1, m0, m1, c0, c1⟩, z0, z1, q⟩ := h
  have lt : p < st.length := (List.getElem?_eq_some_iff.mp e).1
  have sq := seq_ref e
  have st5 : startD 5 [D.ref p, D.int z] = [some (.ref p), some (.int z), none, none, none] := rfl
  by_cases gp : 0 < g
  · simp [F__law_take_v3, st5, sq, gp, setS_ref e, ixN, CDiv, z0]
    refine ⟨by omega, .inl (q _ _ (Int.emod_nonneg _ (by omega)) (Int.emod_lt_of_pos _ z0) ⟨_, _, _, rfl, Int.ediv_nonneg g0 (by omega), ?_, m0, m1, c0, by omega⟩)⟩
    exact Int.lt_of_le_of_lt (Int.ediv_le_self z g0) g1
  · have e2 : (st.set p (.lst [.int g, .int m, .int (c + 1)]))[p]? = some (.lst [.int g, .int m, .int (c + 1)]) := List.getElem?_set_self lt
    have sq2 := seq_ref e2
    simp [F__law_take_v3, st5, sq, gp, setS_ref e, ixN, sq2]
    have r0 : 0 ≤ (c + 1) % 5 := Int.emod_nonneg _ (by decide)
    have r1 : (c + 1) % 5 < 5 := Int.emod_lt_of_pos _ (by decide)
    obtain ⟨pr, hpr, p0, p1⟩ : ∃ pr : Int, atI [D.int 2147483647, .int 2147483629, .int 2147483587, .int 2147483579, .int 2147483563] ((c + 1) % 5) = some (.int pr) ∧ 0 < pr ∧ pr ≤ 2147483647 := by
      have cs : (c + 1) % 5 = 0 ∨ (c + 1) % 5 = 1 ∨ (c + 1) % 5 = 2 ∨ (c + 1) % 5 = 3 ∨ (c + 1) % 5 = 4 := by omega
      rcases cs with e | e | e | e | e <;> rw [e]
      · exact ⟨2147483647, atI_nat (j := 0) rfl, by decide, by decide⟩
      · exact ⟨2147483629, atI_nat (j := 1) rfl, by decide, by decide⟩
      · exact ⟨2147483587, atI_nat (j := 2) rfl, by decide, by decide⟩
      · exact ⟨2147483579, atI_nat (j := 3) rfl, by decide, by decide⟩
      · exact ⟨2147483563, atI_nat (j := 4) rfl, by decide, by decide⟩
    rw [hpr]
    have b1 : 65537 * (c + 1) ≤ 65537 * 1000000 := by omega
    have b2 : 0 ≤ 65537 * (c + 1) := by omega
    have b3 : 0 ≤ 65537 * (c + 1) * (c + 1) := Int.mul_nonneg b2 (by omega)
    have b4 : 65537 * (c + 1) * (c + 1) ≤ (65537 * 1000000) * 1000000 := Int.mul_le_mul b1 (by omega) (by omega) (by decide)
    have ib : Builtin.Int.intBits (m + 65537 * (c + 1) * (c + 1) + 29) ≤ 64 := intBits_le_64 (by omega) (by omega)
    simp only [e_onO, e_onI]
    refine ⟨.inl ⟨by decide, by decide⟩, .inl ⟨by omega, by omega⟩, by omega, p0, .inl ⟨by decide, by decide⟩, ?_⟩
    generalize (m + 65537 * (c + 1) * (c + 1) + 29) ^ 3 = y
    have y0 : 0 ≤ y % pr := Int.emod_nonneg _ (by omega)
    have y1 : y % pr < pr := Int.emod_lt_of_pos _ p0
    refine ⟨.inl ⟨by omega, by omega⟩, ⟨by decide, by decide⟩, z0, .inl (q _ _ (Int.emod_nonneg _ (by omega)) (Int.emod_lt_of_pos _ z0) ⟨_, _, _, rfl, g0, g1, m0, m1, by omega, by omega⟩)⟩
theorem sem_potA (ds : List D) (st : DSt) (Q : DK) (h : g_pot ds st Q) : F__law_pot_of { nx := fun _ st' => Rt st Q .non st', rt := Rt st Q } (startD 4 ds) st := by
  obtain ⟨ns, x, k, rfl, hx, k3, q⟩ := h
  have sq := hx.seq
  have st4 : startD 4 [x, D.int (k : Nat)] = [some x, some (.int k), none, none] := rfl
  have big : (100000 : Nat) ≤ sizeLine := by decide
  have fin : ∀ (v g : Int), 0 ≤ g → g < 10 ^ 400 → CMul (v % 2305843009213693951) 48271 ∧ CMul 7919 (k : Int) ∧ CMul (7919 * (k : Int)) k ∧ Rt st Q (.ref st.length) (st ++ [.lst [.int g, .int ((v % 2305843009213693951 * 48271 + 7919 * (k : Int) * (k : Int) + 13) % 2305843009213693921), .int 0]]) := fun v g g0 g1 => by
    have a0 : 0 ≤ v % 2305843009213693951 := Int.emod_nonneg _ (by decide)
    have a1 : v % 2305843009213693951 < 2305843009213693951 := Int.emod_lt_of_pos _ (by decide)
    refine ⟨.inl ⟨by omega, by omega⟩, .inl ⟨by decide, by decide⟩, .inl ⟨by omega, by omega⟩, .inl (q _ ⟨g, _, 0, rfl, g0, g1, Int.emod_nonneg _ (by decide), Int.lt_trans (Int.emod_lt_of_pos _ (by decide)) (by decide), by decide, by decide⟩)⟩
  have rest : ∀ v : Int, F__law_pot_of { nx := fun _ st' => Rt st Q .non st', rt := Rt st Q } (startD 4 [x, D.int (k : Nat)]) st ∨ True := fun _ => .inr trivial
  have key : ∀ v : Int, (sSeq (sSet 3 (dOp dMul (dOp dMod (dCB dAbs (daCons (dVar 2) daNil)) (dOp dPow (dOp dPow (dC (.int 10)) (dC (.int 60))) (dC (.int 5)))) (dCB dInt (daCons (dOp dGe (dCB dAbs (daCons (dVar 2) daNil)) (dOp dPow (dC (.int 10)) (dC (.int 18)))) daNil)))) (sRet (dLstN (daCons (dVar 3) (daCons (dOp dMod (dOp dAdd (dOp dAdd (dOp dMul (dOp dMod (dVar 2) (dC (.int 2305843009213693951))) (dC (.int 48271))) (dOp dMul (dOp dMul (dC (.int 7919)) (dVar 1)) (dVar 1))) (dC (.int 13))) (dC (.int 2305843009213693921))) (daCons (dC (.int 0)) daNil)))))) { nx := fun _ st' => Rt st Q .non st', rt := Rt st Q } [some x, some (.int k), some (.int v), none] st := fun v => by
    rw [e_seq]
    simp only [e_var, e_C, e_op, e_neg, e_isN, e_notN, e_and, e_or, e_not, e_test, e_tAnd, e_tOr, e_tNot, e_tYes, e_if, e_aNil, e_aCons, e_tup, e_lst, e_lstN, e_len0, e_len1, e_len2, e_len3, e_len4, e_len5, e_cb, e_on1, e_on2, e_onI, e_onB, e_onO, e_onO0, e_onOO, e_I0, e_I, e_add, e_addT, e_addS, e_addL, e_addLR, e_addRL, e_addRR, e_mul, e_mulL, e_mulT, e_rev, e_revT, e_ix, e_eqI, e_eqS, e_eqB, e_neI, e_neS, e_neB, e_ltI, e_chain, e_len, e_abs, e_2I, e_tuple1, e_tuple2, e_tuple3, e_listT, e_listN, e_allR, e_seqT, e_seqK, e_seqL, e_isi, e_isB, e_notB, e_truth, e_next, e_drop, e_ret, e_retN, e_ifS, e_set, e_asg, e_par, e_nm, e_gsN, e_gsC, e_gTpK, e_gTpL, e_sum, e_maxL, e_minL, e_maxDef, e_int, e_intB, e_aug, e_on3, e_par3, e_newK, e_getK, e_keyI, e_keyS, e_inK, e_ninK, e_putK, e_lenK, e_lstS, e_seqX, e_gTpT, e_oN, e_oS, e_sl, e_slT, e_slL, e_finT, e_finN, e_index, e_idxT, e_idxL, e_mIx, e_ixST, e_ixSL, e_mtL, e_w, e_w1, e_w2, e_wE, e_wZ, e_itK, e_itT, e_itL, e_itT2, e_itL2, e_lc, e_for, e_wipe0, e_wipe, e_okI, e_okR, e_gSb, List.getElem?_cons_zero, List.getElem?_cons_succ, List.set_cons_zero, List.set_cons_succ]
    generalize (if v < 0 then -v else v) = w
    have p5 : (0 : Int) < (10 ^ (60 : Int).toNat) ^ (5 : Int).toNat := by decide +kernel
    have r0 : 0 ≤ w % (10 ^ (60 : Int).toNat) ^ (5 : Int).toNat := Int.emod_nonneg _ (by omega)
    have r1 : w % (10 ^ (60 : Int).toNat) ^ (5 : Int).toNat < 10 ^ 400 := Int.lt_of_lt_of_le (Int.emod_lt_of_pos _ p5) (by decide +kernel)
    refine ⟨⟨by decide, by decide +kernel⟩, ⟨by decide, by decide +kernel⟩, p5, ⟨by decide, by decide +kernel⟩, ?_⟩
    generalize w % (10 ^ (60 : Int).toNat) ^ (5 : Int).toNat = u at r0 r1
    generalize decide ((10 : Int) ^ (18 : Int).toNat ≤ w) = b
    cases b with
    | true =>
      refine ⟨.inr ⟨by decide, by decide⟩, ?_⟩
      obtain ⟨f1, f2, f3, f4⟩ := fin v (u * 1) (by omega) (by omega)
      exact ⟨by decide, f1, f2, f3, by decide, f4⟩
    | false =>
      refine ⟨.inr ⟨by decide, by decide⟩, ?_⟩
      obtain ⟨f1, f2, f3, f4⟩ := fin v (u * 0) (by omega) (by rw [Int.mul_zero]; decide +kernel)
      exact ⟨by decide, f1, f2, f3, by decide, f4⟩
  simp only [F__law_pot_of, st4]
  try dsimp only
  rw [e_seq]
  try simp only [e_var, e_C, e_op, e_neg, e_isN, e_notN, e_and, e_or, e_not, e_test, e_tAnd, e_tOr, e_tNot, e_tYes, e_if, e_aNil, e_aCons, e_tup, e_lst, e_lstN, e_len0, e_len1, e_len2, e_len3, e_len4, e_len5, e_cb, e_on1, e_on2, e_onI, e_onB, e_onO, e_onO0, e_onOO, e_I0, e_I, e_add, e_addT, e_addS, e_addL, e_addLR, e_addRL, e_addRR, e_mul, e_mulL, e_mulT, e_rev, e_revT, e_ix, e_eqI, e_eqS, e_eqB, e_neI, e_neS, e_neB, e_ltI, e_chain, e_len, e_abs, e_2I, e_tuple1, e_tuple2, e_tuple3, e_listT, e_listN, e_allR, e_seqT, e_seqK, e_seqL, e_isi, e_isB, e_notB, e_truth, e_next, e_drop, e_ret, e_retN, e_ifS, e_set, e_asg, e_par, e_nm, e_gsN, e_gsC, e_gTpK, e_gTpL, e_sum, e_maxL, e_minL, e_maxDef, e_int, e_intB, e_aug, e_on3, e_par3, e_newK, e_getK, e_keyI, e_keyS, e_inK, e_ninK, e_putK, e_lenK, e_lstS, e_seqX, e_gTpT, e_oN, e_oS, e_sl, e_slT, e_slL, e_finT, e_finN, e_index, e_idxT, e_idxL, e_mIx, e_ixST, e_ixSL, e_mtL, e_w, e_w1, e_w2, e_wE, e_wZ, e_itK, e_itT, e_itL, e_itT2, e_itL2, e_lc, e_for, e_wipe0, e_wipe, e_okI, e_okR, e_gSb, List.getElem?_cons_zero, List.getElem?_cons_succ, List.set_cons_zero, List.set_cons_succ, sq, List.length_map]
  by_cases lt : k < ns.length
  · have ha : atI (ns.map D.int) (k : Int) = some (.int ns[k]) := atI_nat (by rw [List.getElem?_map, List.getElem?_eq_getElem lt]; rfl)
    refine iteT' (decide_eq_true (by omega)) ?_
    rw [ha]
    exact key _
  · refine iteF' (decide_eq_false (by omega)) ⟨.inl ⟨by decide, by decide⟩, ?_⟩
    exact key _
def g_shuf : DRs := fun ds st Q => ∃ (p : Nat) (x : D) (xs : List D) (n : Nat), ds = [.ref p, x] ∧ seqS st x = some xs ∧ x ≠ .ref p ∧ xs.length ≤ 900 ∧ (∀ d ∈ xs, Sm 30 100000 d) ∧ Pot (n + xs.length) p st ∧ ∀ (ys : List D) (o : O), ys.Perm xs → PotO n o → Q (.tup ys) (st.set p o)
theorem ar_shuf (ds : List D) (st : DSt) (Q : DK) (h : g_shuf ds st Q) : ds.length = 2 := by
  obtain ⟨ns, x, xs, k, rfl, _⟩ := h
  rfl
theorem sem_shuf (ds : List D) (st : DSt) (Q : DK) (h : g_shuf ds st Q) : F__law_shuffled g_take { nx := fun _ st' => Rt st Q .non st', rt := Rt st Q } (startD 4 ds) st := by
  obtain ⟨p, x, xs, n, rfl, sq, ne, l, sm, ⟨o, e, po⟩, q⟩ := h
  have lt : p < st.length := (List.getElem?_eq_some_iff.mp e).1
  have st4 : startD 4 [D.ref p, x] = [some (.ref p), some x, none, none] := rfl
  simp only [F__law_shuffled, st4]
  try dsimp only
  rw [e_seq]
  try simp only [e_var, e_C, e_op, e_neg, e_isN, e_notN, e_and, e_or, e_not, e_test, e_tAnd, e_tOr, e_tNot, e_tYes, e_if, e_aNil, e_aCons, e_tup, e_lst, e_lstN, e_len0, e_len1, e_len2, e_len3, e_len4, e_len5, e_cb, e_on1, e_on2, e_onI, e_onB, e_onO, e_onO0, e_onOO, e_I0, e_I, e_add, e_addT, e_addS, e_addL, e_addLR, e_addRL, e_addRR, e_mul, e_mulL, e_mulT, e_rev, e_revT, e_ix, e_eqI, e_eqS, e_eqB, e_neI, e_neS, e_neB, e_ltI, e_chain, e_len, e_abs, e_2I, e_tuple1, e_tuple2, e_tuple3, e_listT, e_listN, e_allR, e_seqT, e_seqK, e_seqL, e_isi, e_isB, e_notB, e_truth, e_next, e_drop, e_ret, e_retN, e_ifS, e_set, e_asg, e_par, e_nm, e_gsN, e_gsC, e_gTpK, e_gTpL, e_sum, e_maxL, e_minL, e_maxDef, e_int, e_intB, e_aug, e_on3, e_par3, e_newK, e_getK, e_keyI, e_keyS, e_inK, e_ninK, e_putK, e_lenK, e_lstS, e_seqX, e_gTpT, e_oN, e_oS, e_sl, e_slT, e_slL, e_finT, e_finN, e_index, e_idxT, e_idxL, e_mIx, e_ixST, e_ixSL, e_mtL, e_w, e_w1, e_w2, e_wE, e_wZ, e_itK, e_itT, e_itL, e_itT2, e_itL2, e_lc, e_for, e_wipe0, e_wipe, e_okI, e_okR, e_gSb, List.getElem?_cons_zero, List.getElem?_cons_succ, List.set_cons_zero, List.set_cons_succ, sq, List.length_append]
  have es : st ++ [O.lst xs] ++ [O.lst []] = st.set p o ++ [O.lst xs, O.lst []] := by rw [set_same e]; simp
  have e2 : st.length + [O.lst xs].length = st.length + 1 := rfl
  rw [es, e2]
  try dsimp only
  rw [e_seq]
  refine s_while (fun m r st' => ∃ (left found : List D) (o : O), r = [some (.ref p), some x, some (.ref st.length), some (.ref (st.length + 1))] ∧ st' = st.set p o ++ [.lst left, .lst found] ∧ PotO (n + left.length) o ∧ (found ++ left).Perm xs ∧ m = left.length) xs.length ⟨xs, [], o, rfl, rfl, po, by simp, rfl⟩ ?_
  rintro m r st' N hN ⟨left, found, o, rfl, rfl, po, pm, rfl⟩
  have ll : (st.set p o).length = st.length := List.length_set
  have sml : ∀ d ∈ left, Sm 30 100000 d := fun d hd => sm d (pm.mem_iff.mp (List.mem_append_right _ hd))
  have smf : ∀ d ∈ found, Sm 30 100000 d := fun d hd => sm d (pm.mem_iff.mp (List.mem_append_left _ hd))
  try simp only [e_var, e_C, e_op, e_neg, e_isN, e_notN, e_and, e_or, e_not, e_test, e_tAnd, e_tOr, e_tNot, e_tYes, e_if, e_aNil, e_aCons, e_tup, e_lst, e_lstN, e_len0, e_len1, e_len2, e_len3, e_len4, e_len5, e_cb, e_on1, e_on2, e_onI, e_onB, e_onO, e_onO0, e_onOO, e_I0, e_I, e_add, e_addT, e_addS, e_addL, e_addLR, e_addRL, e_addRR, e_mul, e_mulL, e_mulT, e_rev, e_revT, e_ix, e_eqI, e_eqS, e_eqB, e_neI, e_neS, e_neB, e_ltI, e_chain, e_len, e_abs, e_2I, e_tuple1, e_tuple2, e_tuple3, e_listT, e_listN, e_allR, e_seqT, e_seqK, e_seqL, e_isi, e_isB, e_notB, e_truth, e_next, e_drop, e_ret, e_retN, e_ifS, e_set, e_asg, e_par, e_nm, e_gsN, e_gsC, e_gTpK, e_gTpL, e_sum, e_maxL, e_minL, e_maxDef, e_int, e_intB, e_aug, e_on3, e_par3, e_newK, e_getK, e_keyI, e_keyS, e_inK, e_ninK, e_putK, e_lenK, e_lstS, e_seqX, e_gTpT, e_oN, e_oS, e_sl, e_slT, e_slL, e_finT, e_finN, e_index, e_idxT, e_idxL, e_mIx, e_ixST, e_ixSL, e_mtL, e_w, e_w1, e_w2, e_wE, e_wZ, e_itK, e_itT, e_itL, e_itT2, e_itL2, e_lc, e_for, e_wipe0, e_wipe, e_okI, e_okR, e_gSb, List.getElem?_cons_zero, List.getElem?_cons_succ, List.set_cons_zero, List.set_cons_succ]
  refine ne_nil own0 sml (by decide) ?_
  cases left with
  | nil =>
    try simp only [e_var, e_C, e_op, e_neg, e_isN, e_notN, e_and, e_or, e_not, e_test, e_tAnd, e_tOr, e_tNot, e_tYes, e_if, e_aNil, e_aCons, e_tup, e_lst, e_lstN, e_len0, e_len1, e_len2, e_len3, e_len4, e_len5, e_cb, e_on1, e_on2, e_onI, e_onB, e_onO, e_onO0, e_onOO, e_I0, e_I, e_add, e_addT, e_addS, e_addL, e_addLR, e_addRL, e_addRR, e_mul, e_mulL, e_mulT, e_rev, e_revT, e_ix, e_eqI, e_eqS, e_eqB, e_neI, e_neS, e_neB, e_ltI, e_chain, e_len, e_abs, e_2I, e_tuple1, e_tuple2, e_tuple3, e_listT, e_listN, e_allR, e_seqT, e_seqK, e_seqL, e_isi, e_isB, e_notB, e_truth, e_next, e_drop, e_ret, e_retN, e_ifS, e_set, e_asg, e_par, e_nm, e_gsN, e_gsC, e_gTpK, e_gTpL, e_sum, e_maxL, e_minL, e_maxDef, e_int, e_intB, e_aug, e_on3, e_par3, e_newK, e_getK, e_keyI, e_keyS, e_inK, e_ninK, e_putK, e_lenK, e_lstS, e_seqX, e_gTpT, e_oN, e_oS, e_sl, e_slT, e_slL, e_finT, e_finN, e_index, e_idxT, e_idxL, e_mIx, e_ixST, e_ixSL, e_mtL, e_w, e_w1, e_w2, e_wE, e_wZ, e_itK, e_itT, e_itL, e_itT2, e_itL2, e_lc, e_for, e_wipe0, e_wipe, e_okI, e_okR, e_gSb, List.getElem?_cons_zero, List.getElem?_cons_succ, List.set_cons_zero, List.set_cons_succ]
    rw [if_neg (by simp)]
    try simp only [e_var, e_C, e_op, e_neg, e_isN, e_notN, e_and, e_or, e_not, e_test, e_tAnd, e_tOr, e_tNot, e_tYes, e_if, e_aNil, e_aCons, e_tup, e_lst, e_lstN, e_len0, e_len1, e_len2, e_len3, e_len4, e_len5, e_cb, e_on1, e_on2, e_onI, e_onB, e_onO, e_onO0, e_onOO, e_I0, e_I, e_add, e_addT, e_addS, e_addL, e_addLR, e_addRL, e_addRR, e_mul, e_mulL, e_mulT, e_rev, e_revT, e_ix, e_eqI, e_eqS, e_eqB, e_neI, e_neS, e_neB, e_ltI, e_chain, e_len, e_abs, e_2I, e_tuple1, e_tuple2, e_tuple3, e_listT, e_listN, e_allR, e_seqT, e_seqK, e_seqL, e_isi, e_isB, e_notB, e_truth, e_next, e_drop, e_ret, e_retN, e_ifS, e_set, e_asg, e_par, e_nm, e_gsN, e_gsC, e_gTpK, e_gTpL, e_sum, e_maxL, e_minL, e_maxDef, e_int, e_intB, e_aug, e_on3, e_par3, e_newK, e_getK, e_keyI, e_keyS, e_inK, e_ninK, e_putK, e_lenK, e_lstS, e_seqX, e_gTpT, e_oN, e_oS, e_sl, e_slT, e_slL, e_finT, e_finN, e_index, e_idxT, e_idxL, e_mIx, e_ixST, e_ixSL, e_mtL, e_w, e_w1, e_w2, e_wE, e_wZ, e_itK, e_itT, e_itL, e_itT2, e_itL2, e_lc, e_for, e_wipe0, e_wipe, e_okI, e_okR, e_gSb, List.getElem?_cons_zero, List.getElem?_cons_succ, List.set_cons_zero, List.set_cons_succ, seq_ref own1]
    refine rt_drop ll (by simp only [DL.clo]; exact sm_clos smf) (cs_set po) (q found o ?_ po)
    simpa using pm
  | cons z rest =>
    try simp only [e_var, e_C, e_op, e_neg, e_isN, e_notN, e_and, e_or, e_not, e_test, e_tAnd, e_tOr, e_tNot, e_tYes, e_if, e_aNil, e_aCons, e_tup, e_lst, e_lstN, e_len0, e_len1, e_len2, e_len3, e_len4, e_len5, e_cb, e_on1, e_on2, e_onI, e_onB, e_onO, e_onO0, e_onOO, e_I0, e_I, e_add, e_addT, e_addS, e_addL, e_addLR, e_addRL, e_addRR, e_mul, e_mulL, e_mulT, e_rev, e_revT, e_ix, e_eqI, e_eqS, e_eqB, e_neI, e_neS, e_neB, e_ltI, e_chain, e_len, e_abs, e_2I, e_tuple1, e_tuple2, e_tuple3, e_listT, e_listN, e_allR, e_seqT, e_seqK, e_seqL, e_isi, e_isB, e_notB, e_truth, e_next, e_drop, e_ret, e_retN, e_ifS, e_set, e_asg, e_par, e_nm, e_gsN, e_gsC, e_gTpK, e_gTpL, e_sum, e_maxL, e_minL, e_maxDef, e_int, e_intB, e_aug, e_on3, e_par3, e_newK, e_getK, e_keyI, e_keyS, e_inK, e_ninK, e_putK, e_lenK, e_lstS, e_seqX, e_gTpT, e_oN, e_oS, e_sl, e_slT, e_slL, e_finT, e_finN, e_index, e_idxT, e_idxL, e_mIx, e_ixST, e_ixSL, e_mtL, e_w, e_w1, e_w2, e_wE, e_wZ, e_itK, e_itT, e_itL, e_itT2, e_itL2, e_lc, e_for, e_wipe0, e_wipe, e_okI, e_okR, e_gSb, List.getElem?_cons_zero, List.getElem?_cons_succ, List.set_cons_zero, List.set_cons_succ]
    rw [if_pos (by simp)]
    try simp only [e_var, e_C, e_op, e_neg, e_isN, e_notN, e_and, e_or, e_not, e_test, e_tAnd, e_tOr, e_tNot, e_tYes, e_if, e_aNil, e_aCons, e_tup, e_lst, e_lstN, e_len0, e_len1, e_len2, e_len3, e_len4, e_len5, e_cb, e_on1, e_on2, e_onI, e_onB, e_onO, e_onO0, e_onOO, e_I0, e_I, e_add, e_addT, e_addS, e_addL, e_addLR, e_addRL, e_addRR, e_mul, e_mulL, e_mulT, e_rev, e_revT, e_ix, e_eqI, e_eqS, e_eqB, e_neI, e_neS, e_neB, e_ltI, e_chain, e_len, e_abs, e_2I, e_tuple1, e_tuple2, e_tuple3, e_listT, e_listN, e_allR, e_seqT, e_seqK, e_seqL, e_isi, e_isB, e_notB, e_truth, e_next, e_drop, e_ret, e_retN, e_ifS, e_set, e_asg, e_par, e_nm, e_gsN, e_gsC, e_gTpK, e_gTpL, e_sum, e_maxL, e_minL, e_maxDef, e_int, e_intB, e_aug, e_on3, e_par3, e_newK, e_getK, e_keyI, e_keyS, e_inK, e_ninK, e_putK, e_lenK, e_lstS, e_seqX, e_gTpT, e_oN, e_oS, e_sl, e_slT, e_slL, e_finT, e_finN, e_index, e_idxT, e_idxL, e_mIx, e_ixST, e_ixSL, e_mtL, e_w, e_w1, e_w2, e_wE, e_wZ, e_itK, e_itT, e_itL, e_itT2, e_itL2, e_lc, e_for, e_wipe0, e_wipe, e_okI, e_okR, e_gSb, List.getElem?_cons_zero, List.getElem?_cons_succ, List.set_cons_zero, List.set_cons_succ, seq_ref own0]
    have lxs := pm.length_eq
    rw [List.length_append, List.length_cons] at lxs
    refine ⟨by unfold LstD; simp only [own1], by unfold LstD; simp only [own0], ?_⟩
    rw [List.length_cons]
    refine take_ev (n := n + rest.length) (pot_at lt po) (by omega) (by omega) fun r o' r1 po' => ?_
    rw [pot_app lt]
    have hr : (r : Int).toNat < (z :: rest).length := by rw [List.length_cons]; omega
    refine pop_ref own0 (by omega) hr (by rw [List.length_cons]; omega) ?_
    rw [put0]
    refine append_ref own1 (small1000 (by omega)) ?_
    rw [put1]
    have le : ((z :: rest).eraseIdx (r : Int).toNat).length = rest.length := by
      rw [List.length_eraseIdx_of_lt hr, List.length_cons]
      omega
    refine hN rest.length _ _ (by simp) (.inl ⟨_, _, o', rfl, rfl, by rw [le]; exact po', ?_, le.symm⟩)
    refine List.Perm.trans ?_ pm
    rw [List.append_assoc]
    exact List.Perm.append_left found (take_outD _ _ hr)
theorem shuf_rg {p n k : Nat} {st : DSt} {Q : DK} (n1 : n ≤ 64) (pot : Pot (k + n) p st) (q : ∀ (ns : List Int) (o : O), Ord n ns → PotO k o → Q (rowD ns) (st.set p o)) : g_shuf [.ref p, .lst (rgD 0 n)] st Q := by
  refine ⟨p, _, rgD 0 n, k, rfl, rfl, fun z => (by cases z), by rw [rgD_length]; omega, fun d hd => ?_, by rw [rgD_length]; exact pot, fun ys o2 pm po2 => ?_⟩
  · obtain ⟨i, li, rfl⟩ := rgD_mem hd
    exact (sm_int (by omega) (by omega)).mono (by decide) (by decide)
  · obtain ⟨ns, rfl, on⟩ := mixed_ord pm
    exact q ns o2 on po2
end DL
namespace DL
open PySem PySem.Spec PyProof.Rows L2 LamX PySem.W SL
theorem Ord.of_perm {n : Nat} {xs ys : List Int} (o : Ord n xs) (p : ys.Perm xs) : Ord n ys := ⟨p.trans o.perm⟩
theorem rot_perm {α : Type} (xs : List α) (a : Nat) : (xs.drop a ++ xs.take a).Perm xs := List.perm_append_comm.trans (by rw [List.take_append_drop])
theorem head_perm {xs : List Int} {b : Int} (nd : xs.Nodup) (h : b ∈ xs) : ([b] ++ xs.filter fun x => !decide (x = b)).Perm xs := by
  refine (List.perm_ext_iff_of_nodup ?_ nd).mpr fun x => ?_
  · show (b :: _).Nodup
    rw [List.nodup_cons]
    refine ⟨fun z => ?_, nd.filter _⟩
    have := (List.mem_filter.mp z).2
    simp at this
  · rw [List.singleton_append, List.mem_cons, List.mem_filter]
    constructor
    · rintro (rfl | ⟨z, _⟩)
      · exact h
      · exact z
    · intro z
      by_cases e : x = b
      · exact .inl e
      · exact .inr ⟨z, by simp [e]⟩
theorem turn_perm {α : Type} (xs : List α) (a w : Nat) : (xs.take a ++ ((xs.drop a).take w).reverse ++ xs.drop (a + w)).Perm xs := by
  have e : xs = xs.take a ++ ((xs.drop a).take w ++ xs.drop (a + w)) := by
    conv => lhs; rw [← List.take_append_drop a xs]
    congr 1
    conv => lhs; rw [← List.take_append_drop w (xs.drop a)]
    rw [List.drop_drop]
  conv => rhs; rw [e]
  rw [List.append_assoc]
  exact List.Perm.append_left _ (List.Perm.append_right _ (List.reverse_perm _))
theorem cutH (xs : List D) (k : Nat) : cutD xs none (some (k : Int)) = xs.take k := by
  unfold cutD
  have z : HT.sIx xs.length xs.length (some (k : Int)) = min k xs.length := HT.sIx_nat xs.length xs.length k
  rw [z, HT.sIx_none, List.drop_zero, Nat.sub_zero]
  rcases Nat.le_total k xs.length with h | h
  · rw [Nat.min_eq_left h]
  · rw [Nat.min_eq_right h, List.take_length, List.take_of_length_le h]
theorem cutM {xs : List D} {a b : Nat} (h : a ≤ xs.length) (hb : a ≤ b) : cutD xs (some (a : Int)) (some (b : Int)) = (xs.drop a).take (b - a) := by
  unfold cutD
  have z : HT.sIx xs.length 0 (some (a : Int)) = min a xs.length := HT.sIx_nat xs.length 0 a
  have y : HT.sIx xs.length xs.length (some (b : Int)) = min b xs.length := HT.sIx_nat xs.length xs.length b
  rw [z, y, Nat.min_eq_left h]
  rcases Nat.le_total b xs.length with q | q
  · rw [Nat.min_eq_left q]
  · rw [Nat.min_eq_right q, List.take_of_length_le (by rw [List.length_drop]; omega), List.take_of_length_le (by rw [List.length_drop]; omega)]
def g_probesA : DRs := fun ds st Q => ∃ (p k m n : Nat), ds = [.ref p, .int (m : Nat), .int (n : Nat)] ∧ Pot (k + 400) p st ∧ 1 ≤ n ∧ n ≤ 16 ∧ m ≤ 16 ∧ ∀ (P : List (List Int)) (o : O), P.length = m → (∀ x ∈ P, Ord n x) → PotO k o → Q (rowsD P) (st.set p o)
theorem ar_probesA (ds : List D) (st : DSt) (Q : DK) (h : g_probesA ds st Q) : ds.length = 3 := by
  obtain ⟨_, _, _, _, rfl, _⟩ := h
  rfl
theorem clos_rows (n : Nat) : ∀ P : List (List Int), clos n (P.map rowD) = true
  | [] => rfl
  | x :: r => by
    rw [List.map_cons]
    show (clo n (rowD x) && clos n (r.map rowD)) = true
    rw [clos_rows n r, Bool.and_true]
    simp only [rowD, clo]
    exact clos_ints n x
set_option maxHeartbeats 4000000 in
theorem sem_probesA (ds : List D) (st : DSt) (Q : DK) (h : g_probesA ds st Q) : F__law_drawn_probes g_take g_shuf { nx := fun _ st' => Rt st Q .non st', rt := Rt st Q } (startD 10 ds) st := by
  obtain ⟨p, k, m, n, rfl, pot, n1, n16, m16, q⟩ := h
  have lt := pot.lt
  have st10 : startD 10 [D.ref p, D.int (m : Nat), D.int (n : Nat)] = [some (.ref p), some (.int (m : Nat)), some (.int (n : Nat)), none, none, none, none, none, none, none] := rfl
  have big : (1000 : Nat) ≤ sizeLine := by decide
  simp only [F__law_drawn_probes, st10]
  try dsimp only
  rw [e_seq]
  try simp only [e_var, e_C, e_op, e_neg, e_isN, e_notN, e_and, e_or, e_not, e_test, e_tAnd, e_tOr, e_tNot, e_tYes, e_if, e_aNil, e_aCons, e_tup, e_lst, e_lstN, e_len0, e_len1, e_len2, e_len3, e_len4, e_len5, e_cb, e_on1, e_on2, e_onI, e_onB, e_onO, e_onO0, e_onOO, e_I0, e_I, e_add, e_addT, e_addS, e_addL, e_addLR, e_addRL, e_addRR, e_mul, e_mulL, e_mulT, e_rev, e_revT, e_ix, e_eqI, e_eqS, e_eqB, e_neI, e_neS, e_neB, e_ltI, e_chain, e_len, e_abs, e_2I, e_tuple1, e_tuple2, e_tuple3, e_listT, e_listN, e_allR, e_seqT, e_seqK, e_seqL, e_isi, e_isB, e_notB, e_truth, e_next, e_drop, e_ret, e_retN, e_ifS, e_set, e_asg, e_par, e_nm, e_gsN, e_gsC, e_gTpK, e_gTpL, e_sum, e_maxL, e_minL, e_maxDef, e_int, e_intB, e_aug, e_on3, e_par3, e_newK, e_getK, e_keyI, e_keyS, e_inK, e_ninK, e_putK, e_lenK, e_lstS, e_seqX, e_gTpT, e_oN, e_oS, e_sl, e_slT, e_slL, e_finT, e_finN, e_index, e_idxT, e_idxL, e_mIx, e_ixST, e_ixSL, e_mtL, e_w, e_w1, e_w2, e_wE, e_wZ, e_itK, e_itT, e_itL, e_itT2, e_itL2, e_lc, e_for, e_wipe0, e_wipe, e_okI, e_okR, e_gSb, List.getElem?_cons_zero, List.getElem?_cons_succ, List.set_cons_zero, List.set_cons_succ]
  refine take_ev (n := k + 399) pot (by decide) (by decide) fun way o1 lw po1 => ?_
  unfold dLRg1
  try simp only [e_var, e_C, e_op, e_neg, e_isN, e_notN, e_and, e_or, e_not, e_test, e_tAnd, e_tOr, e_tNot, e_tYes, e_if, e_aNil, e_aCons, e_tup, e_lst, e_lstN, e_len0, e_len1, e_len2, e_len3, e_len4, e_len5, e_cb, e_on1, e_on2, e_onI, e_onB, e_onO, e_onO0, e_onOO, e_I0, e_I, e_add, e_addT, e_addS, e_addL, e_addLR, e_addRL, e_addRR, e_mul, e_mulL, e_mulT, e_rev, e_revT, e_ix, e_eqI, e_eqS, e_eqB, e_neI, e_neS, e_neB, e_ltI, e_chain, e_len, e_abs, e_2I, e_tuple1, e_tuple2, e_tuple3, e_listT, e_listN, e_allR, e_seqT, e_seqK, e_seqL, e_isi, e_isB, e_notB, e_truth, e_next, e_drop, e_ret, e_retN, e_ifS, e_set, e_asg, e_par, e_nm, e_gsN, e_gsC, e_gTpK, e_gTpL, e_sum, e_maxL, e_minL, e_maxDef, e_int, e_intB, e_aug, e_on3, e_par3, e_newK, e_getK, e_keyI, e_keyS, e_inK, e_ninK, e_putK, e_lenK, e_lstS, e_seqX, e_gTpT, e_oN, e_oS, e_sl, e_slT, e_slL, e_finT, e_finN, e_index, e_idxT, e_idxL, e_mIx, e_ixST, e_ixSL, e_mtL, e_w, e_w1, e_w2, e_wE, e_wZ, e_itK, e_itT, e_itL, e_itT2, e_itL2, e_lc, e_for, e_wipe0, e_wipe, e_okI, e_okR, e_gSb, List.getElem?_cons_zero, List.getElem?_cons_succ, List.set_cons_zero, List.set_cons_succ, Int.toNat_natCast]
  refine ⟨RgOk.of_le (by decide) (by omega) (by decide) (by omega), shuf_rg (k := k + 383) (by omega) (Pot.set lt (po1.less (by omega))) fun base o2 ob po2 => ?_⟩
  rw [List.set_set]
  try simp only [e_var, e_C, e_op, e_neg, e_isN, e_notN, e_and, e_or, e_not, e_test, e_tAnd, e_tOr, e_tNot, e_tYes, e_if, e_aNil, e_aCons, e_tup, e_lst, e_lstN, e_len0, e_len1, e_len2, e_len3, e_len4, e_len5, e_cb, e_on1, e_on2, e_onI, e_onB, e_onO, e_onO0, e_onOO, e_I0, e_I, e_add, e_addT, e_addS, e_addL, e_addLR, e_addRL, e_addRR, e_mul, e_mulL, e_mulT, e_rev, e_revT, e_ix, e_eqI, e_eqS, e_eqB, e_neI, e_neS, e_neB, e_ltI, e_chain, e_len, e_abs, e_2I, e_tuple1, e_tuple2, e_tuple3, e_listT, e_listN, e_allR, e_seqT, e_seqK, e_seqL, e_isi, e_isB, e_notB, e_truth, e_next, e_drop, e_ret, e_retN, e_ifS, e_set, e_asg, e_par, e_nm, e_gsN, e_gsC, e_gTpK, e_gTpL, e_sum, e_maxL, e_minL, e_maxDef, e_int, e_intB, e_aug, e_on3, e_par3, e_newK, e_getK, e_keyI, e_keyS, e_inK, e_ninK, e_putK, e_lenK, e_lstS, e_seqX, e_gTpT, e_oN, e_oS, e_sl, e_slT, e_slL, e_finT, e_finN, e_index, e_idxT, e_idxL, e_mIx, e_ixST, e_ixSL, e_mtL, e_w, e_w1, e_w2, e_wE, e_wZ, e_itK, e_itT, e_itL, e_itT2, e_itL2, e_lc, e_for, e_wipe0, e_wipe, e_okI, e_okR, e_gSb, List.getElem?_cons_zero, List.getElem?_cons_succ, List.set_cons_zero, List.set_cons_succ, List.length_set]
  refine ⟨rfl, ?_⟩
  try dsimp only
  rw [e_seq]
  try simp only [e_var, e_C, e_op, e_neg, e_isN, e_notN, e_and, e_or, e_not, e_test, e_tAnd, e_tOr, e_tNot, e_tYes, e_if, e_aNil, e_aCons, e_tup, e_lst, e_lstN, e_len0, e_len1, e_len2, e_len3, e_len4, e_len5, e_cb, e_on1, e_on2, e_onI, e_onB, e_onO, e_onO0, e_onOO, e_I0, e_I, e_add, e_addT, e_addS, e_addL, e_addLR, e_addRL, e_addRR, e_mul, e_mulL, e_mulT, e_rev, e_revT, e_ix, e_eqI, e_eqS, e_eqB, e_neI, e_neS, e_neB, e_ltI, e_chain, e_len, e_abs, e_2I, e_tuple1, e_tuple2, e_tuple3, e_listT, e_listN, e_allR, e_seqT, e_seqK, e_seqL, e_isi, e_isB, e_notB, e_truth, e_next, e_drop, e_ret, e_retN, e_ifS, e_set, e_asg, e_par, e_nm, e_gsN, e_gsC, e_gTpK, e_gTpL, e_sum, e_maxL, e_minL, e_maxDef, e_int, e_intB, e_aug, e_on3, e_par3, e_newK, e_getK, e_keyI, e_keyS, e_inK, e_ninK, e_putK, e_lenK, e_lstS, e_seqX, e_gTpT, e_oN, e_oS, e_sl, e_slT, e_slL, e_finT, e_finN, e_index, e_idxT, e_idxL, e_mIx, e_ixST, e_ixSL, e_mtL, e_w, e_w1, e_w2, e_wE, e_wZ, e_itK, e_itT, e_itL, e_itT2, e_itL2, e_lc, e_for, e_wipe0, e_wipe, e_okI, e_okR, e_gSb, List.getElem?_cons_zero, List.getElem?_cons_succ, List.set_cons_zero, List.set_cons_succ, Int.toNat_natCast]
  refine ⟨⟨by omega, by omega⟩, ?_⟩
  have lb := ob.len
  refine for_inv (fun left r st' => ∃ (P : List (List Int)) (o : O) (x6 x7 x8 : Option D), r = [some (.ref p), some (.int (m : Nat)), some (.int (n : Nat)), some (.int (way : Nat)), some (.tup (base.map D.int)), some (.ref st.length), x6, x7, x8, none] ∧ st' = st.set p o ++ [.lst (P.map rowD)] ∧ (∀ x ∈ P, Ord n x) ∧ P.length + left.length = m ∧ PotO (k + left.length * 18) o) ?_ ?_ _ _ _ ⟨[], o2, _, _, _, rfl, rfl, fun x hx => (by cases hx), by rw [rgD_length]; simp, po2.less (by rw [rgD_length]; omega)⟩
  · rintro d left r st' N hN ⟨P, o, x6, x7, x8, rfl, rfl, oP, lP, po⟩
    rw [List.length_cons] at lP po
    rw [Nat.succ_mul] at po
    try simp only [e_var, e_C, e_op, e_neg, e_isN, e_notN, e_and, e_or, e_not, e_test, e_tAnd, e_tOr, e_tNot, e_tYes, e_if, e_aNil, e_aCons, e_tup, e_lst, e_lstN, e_len0, e_len1, e_len2, e_len3, e_len4, e_len5, e_cb, e_on1, e_on2, e_onI, e_onB, e_onO, e_onO0, e_onOO, e_I0, e_I, e_add, e_addT, e_addS, e_addL, e_addLR, e_addRL, e_addRR, e_mul, e_mulL, e_mulT, e_rev, e_revT, e_ix, e_eqI, e_eqS, e_eqB, e_neI, e_neS, e_neB, e_ltI, e_chain, e_len, e_abs, e_2I, e_tuple1, e_tuple2, e_tuple3, e_listT, e_listN, e_allR, e_seqT, e_seqK, e_seqL, e_isi, e_isB, e_notB, e_truth, e_next, e_drop, e_ret, e_retN, e_ifS, e_set, e_asg, e_par, e_nm, e_gsN, e_gsC, e_gTpK, e_gTpL, e_sum, e_maxL, e_minL, e_maxDef, e_int, e_intB, e_aug, e_on3, e_par3, e_newK, e_getK, e_keyI, e_keyS, e_inK, e_ninK, e_putK, e_lenK, e_lstS, e_seqX, e_gTpT, e_oN, e_oS, e_sl, e_slT, e_slL, e_finT, e_finN, e_index, e_idxT, e_idxL, e_mIx, e_ixST, e_ixSL, e_mtL, e_w, e_w1, e_w2, e_wE, e_wZ, e_itK, e_itT, e_itL, e_itT2, e_itL2, e_lc, e_for, e_wipe0, e_wipe, e_okI, e_okR, e_gSb, List.getElem?_cons_zero, List.getElem?_cons_succ, List.set_cons_zero, List.set_cons_succ]
    try dsimp only
    rw [e_seq]
    try simp only [e_var, e_C, e_op, e_neg, e_isN, e_notN, e_and, e_or, e_not, e_test, e_tAnd, e_tOr, e_tNot, e_tYes, e_if, e_aNil, e_aCons, e_tup, e_lst, e_lstN, e_len0, e_len1, e_len2, e_len3, e_len4, e_len5, e_cb, e_on1, e_on2, e_onI, e_onB, e_onO, e_onO0, e_onOO, e_I0, e_I, e_add, e_addT, e_addS, e_addL, e_addLR, e_addRL, e_addRR, e_mul, e_mulL, e_mulT, e_rev, e_revT, e_ix, e_eqI, e_eqS, e_eqB, e_neI, e_neS, e_neB, e_ltI, e_chain, e_len, e_abs, e_2I, e_tuple1, e_tuple2, e_tuple3, e_listT, e_listN, e_allR, e_seqT, e_seqK, e_seqL, e_isi, e_isB, e_notB, e_truth, e_next, e_drop, e_ret, e_retN, e_ifS, e_set, e_asg, e_par, e_nm, e_gsN, e_gsC, e_gTpK, e_gTpL, e_sum, e_maxL, e_minL, e_maxDef, e_int, e_intB, e_aug, e_on3, e_par3, e_newK, e_getK, e_keyI, e_keyS, e_inK, e_ninK, e_putK, e_lenK, e_lstS, e_seqX, e_gTpT, e_oN, e_oS, e_sl, e_slT, e_slL, e_finT, e_finN, e_index, e_idxT, e_idxL, e_mIx, e_ixST, e_ixSL, e_mtL, e_w, e_w1, e_w2, e_wE, e_wZ, e_itK, e_itT, e_itL, e_itT2, e_itL2, e_lc, e_for, e_wipe0, e_wipe, e_okI, e_okR, e_gSb, List.getElem?_cons_zero, List.getElem?_cons_succ, List.set_cons_zero, List.set_cons_succ, Int.toNat_natCast]
    refine ⟨RgOk.of_le (by decide) (by omega) (by decide) (by omega), shuf_rg (k := k + left.length * 18 + 1) (by omega) (pot_at lt (po.less (by omega))) fun ord o3 oo po3 => ?_⟩
    rw [pot_app lt]
    have fin : ∀ (x8 : Option D) (ord : List Int) (o4 : O), Ord n ord → PotO (k + left.length * 18) o4 → sDrop (dMtL mAppend (dVar 5) (daCons (dVar 7) daNil)) { nx := N, rt := Rt st Q, bk := sRet (dCB dTuple (daCons (dVar 5) daNil)) { nx := fun x st' => Rt st Q D.non st', rt := Rt st Q }, ct := N } [some (.ref p), some (.int (m : Nat)), some (.int (n : Nat)), some (.int (way : Nat)), some (.tup (base.map D.int)), some (.ref st.length), some d, some (rowD ord), x8, none] (st.set p o4 ++ [.lst (P.map rowD)]) := fun x8 ord o4 o5 po4 => by
      try simp only [e_var, e_C, e_op, e_neg, e_isN, e_notN, e_and, e_or, e_not, e_test, e_tAnd, e_tOr, e_tNot, e_tYes, e_if, e_aNil, e_aCons, e_tup, e_lst, e_lstN, e_len0, e_len1, e_len2, e_len3, e_len4, e_len5, e_cb, e_on1, e_on2, e_onI, e_onB, e_onO, e_onO0, e_onOO, e_I0, e_I, e_add, e_addT, e_addS, e_addL, e_addLR, e_addRL, e_addRR, e_mul, e_mulL, e_mulT, e_rev, e_revT, e_ix, e_eqI, e_eqS, e_eqB, e_neI, e_neS, e_neB, e_ltI, e_chain, e_len, e_abs, e_2I, e_tuple1, e_tuple2, e_tuple3, e_listT, e_listN, e_allR, e_seqT, e_seqK, e_seqL, e_isi, e_isB, e_notB, e_truth, e_next, e_drop, e_ret, e_retN, e_ifS, e_set, e_asg, e_par, e_nm, e_gsN, e_gsC, e_gTpK, e_gTpL, e_sum, e_maxL, e_minL, e_maxDef, e_int, e_intB, e_aug, e_on3, e_par3, e_newK, e_getK, e_keyI, e_keyS, e_inK, e_ninK, e_putK, e_lenK, e_lstS, e_seqX, e_gTpT, e_oN, e_oS, e_sl, e_slT, e_slL, e_finT, e_finN, e_index, e_idxT, e_idxL, e_mIx, e_ixST, e_ixSL, e_mtL, e_w, e_w1, e_w2, e_wE, e_wZ, e_itK, e_itT, e_itL, e_itT2, e_itL2, e_lc, e_for, e_wipe0, e_wipe, e_okI, e_okR, e_gSb, List.getElem?_cons_zero, List.getElem?_cons_succ, List.set_cons_zero, List.set_cons_succ]
      refine ⟨by unfold LstD; simp only [own0], append_ref own0 (by rw [List.length_map]; omega) ?_⟩
      rw [put0]
      refine hN _ _ (.inl ⟨P ++ [ord], o4, some d, some (rowD ord), x8, rfl, by rw [List.map_append]; rfl, fun x hx => ?_, by rw [List.length_append]; simp; omega, po4⟩)
      rcases List.mem_append.mp hx with z | z
      · exact oP x z
      · rw [List.mem_singleton.mp z]; exact o5
    try dsimp only
    rw [e_seq]
    try simp only [e_var, e_C, e_op, e_neg, e_isN, e_notN, e_and, e_or, e_not, e_test, e_tAnd, e_tOr, e_tNot, e_tYes, e_if, e_aNil, e_aCons, e_tup, e_lst, e_lstN, e_len0, e_len1, e_len2, e_len3, e_len4, e_len5, e_cb, e_on1, e_on2, e_onI, e_onB, e_onO, e_onO0, e_onOO, e_I0, e_I, e_add, e_addT, e_addS, e_addL, e_addLR, e_addRL, e_addRR, e_mul, e_mulL, e_mulT, e_rev, e_revT, e_ix, e_eqI, e_eqS, e_eqB, e_neI, e_neS, e_neB, e_ltI, e_chain, e_len, e_abs, e_2I, e_tuple1, e_tuple2, e_tuple3, e_listT, e_listN, e_allR, e_seqT, e_seqK, e_seqL, e_isi, e_isB, e_notB, e_truth, e_next, e_drop, e_ret, e_retN, e_ifS, e_set, e_asg, e_par, e_nm, e_gsN, e_gsC, e_gTpK, e_gTpL, e_sum, e_maxL, e_minL, e_maxDef, e_int, e_intB, e_aug, e_on3, e_par3, e_newK, e_getK, e_keyI, e_keyS, e_inK, e_ninK, e_putK, e_lenK, e_lstS, e_seqX, e_gTpT, e_oN, e_oS, e_sl, e_slT, e_slL, e_finT, e_finN, e_index, e_idxT, e_idxL, e_mIx, e_ixST, e_ixSL, e_mtL, e_w, e_w1, e_w2, e_wE, e_wZ, e_itK, e_itT, e_itL, e_itT2, e_itL2, e_lc, e_for, e_wipe0, e_wipe, e_okI, e_okR, e_gSb, List.getElem?_cons_zero, List.getElem?_cons_succ, List.set_cons_zero, List.set_cons_succ]
    by_cases w1 : way = 1
    · subst w1
      refine iteT' (by decide) ?_
      try dsimp only
      rw [e_seq]
      try simp only [e_var, e_C, e_op, e_neg, e_isN, e_notN, e_and, e_or, e_not, e_test, e_tAnd, e_tOr, e_tNot, e_tYes, e_if, e_aNil, e_aCons, e_tup, e_lst, e_lstN, e_len0, e_len1, e_len2, e_len3, e_len4, e_len5, e_cb, e_on1, e_on2, e_onI, e_onB, e_onO, e_onO0, e_onOO, e_I0, e_I, e_add, e_addT, e_addS, e_addL, e_addLR, e_addRL, e_addRR, e_mul, e_mulL, e_mulT, e_rev, e_revT, e_ix, e_eqI, e_eqS, e_eqB, e_neI, e_neS, e_neB, e_ltI, e_chain, e_len, e_abs, e_2I, e_tuple1, e_tuple2, e_tuple3, e_listT, e_listN, e_allR, e_seqT, e_seqK, e_seqL, e_isi, e_isB, e_notB, e_truth, e_next, e_drop, e_ret, e_retN, e_ifS, e_set, e_asg, e_par, e_nm, e_gsN, e_gsC, e_gTpK, e_gTpL, e_sum, e_maxL, e_minL, e_maxDef, e_int, e_intB, e_aug, e_on3, e_par3, e_newK, e_getK, e_keyI, e_keyS, e_inK, e_ninK, e_putK, e_lenK, e_lstS, e_seqX, e_gTpT, e_oN, e_oS, e_sl, e_slT, e_slL, e_finT, e_finN, e_index, e_idxT, e_idxL, e_mIx, e_ixST, e_ixSL, e_mtL, e_w, e_w1, e_w2, e_wE, e_wZ, e_itK, e_itT, e_itL, e_itT2, e_itL2, e_lc, e_for, e_wipe0, e_wipe, e_okI, e_okR, e_gSb, List.getElem?_cons_zero, List.getElem?_cons_succ, List.set_cons_zero, List.set_cons_succ]
      refine take_ev (n := k + left.length * 18) (pot_at lt po3) (by omega) (by omega) fun a o4 la po4 => ?_
      rw [pot_app lt]
      try simp only [e_var, e_C, e_op, e_neg, e_isN, e_notN, e_and, e_or, e_not, e_test, e_tAnd, e_tOr, e_tNot, e_tYes, e_if, e_aNil, e_aCons, e_tup, e_lst, e_lstN, e_len0, e_len1, e_len2, e_len3, e_len4, e_len5, e_cb, e_on1, e_on2, e_onI, e_onB, e_onO, e_onO0, e_onOO, e_I0, e_I, e_add, e_addT, e_addS, e_addL, e_addLR, e_addRL, e_addRR, e_mul, e_mulL, e_mulT, e_rev, e_revT, e_ix, e_eqI, e_eqS, e_eqB, e_neI, e_neS, e_neB, e_ltI, e_chain, e_len, e_abs, e_2I, e_tuple1, e_tuple2, e_tuple3, e_listT, e_listN, e_allR, e_seqT, e_seqK, e_seqL, e_isi, e_isB, e_notB, e_truth, e_next, e_drop, e_ret, e_retN, e_ifS, e_set, e_asg, e_par, e_nm, e_gsN, e_gsC, e_gTpK, e_gTpL, e_sum, e_maxL, e_minL, e_maxDef, e_int, e_intB, e_aug, e_on3, e_par3, e_newK, e_getK, e_keyI, e_keyS, e_inK, e_ninK, e_putK, e_lenK, e_lstS, e_seqX, e_gTpT, e_oN, e_oS, e_sl, e_slT, e_slL, e_finT, e_finN, e_index, e_idxT, e_idxL, e_mIx, e_ixST, e_ixSL, e_mtL, e_w, e_w1, e_w2, e_wE, e_wZ, e_itK, e_itT, e_itL, e_itT2, e_itL2, e_lc, e_for, e_wipe0, e_wipe, e_okI, e_okR, e_gSb, List.getElem?_cons_zero, List.getElem?_cons_succ, List.set_cons_zero, List.set_cons_succ, cutN, cutH]
      refine ⟨by rw [List.length_drop, List.length_take, List.length_map]; omega, ?_⟩
      rw [← List.map_drop, ← List.map_take, ← List.map_append]
      try dsimp only
      rw [e_seq]
      try simp only [e_var, e_C, e_op, e_neg, e_isN, e_notN, e_and, e_or, e_not, e_test, e_tAnd, e_tOr, e_tNot, e_tYes, e_if, e_aNil, e_aCons, e_tup, e_lst, e_lstN, e_len0, e_len1, e_len2, e_len3, e_len4, e_len5, e_cb, e_on1, e_on2, e_onI, e_onB, e_onO, e_onO0, e_onOO, e_I0, e_I, e_add, e_addT, e_addS, e_addL, e_addLR, e_addRL, e_addRR, e_mul, e_mulL, e_mulT, e_rev, e_revT, e_ix, e_eqI, e_eqS, e_eqB, e_neI, e_neS, e_neB, e_ltI, e_chain, e_len, e_abs, e_2I, e_tuple1, e_tuple2, e_tuple3, e_listT, e_listN, e_allR, e_seqT, e_seqK, e_seqL, e_isi, e_isB, e_notB, e_truth, e_next, e_drop, e_ret, e_retN, e_ifS, e_set, e_asg, e_par, e_nm, e_gsN, e_gsC, e_gTpK, e_gTpL, e_sum, e_maxL, e_minL, e_maxDef, e_int, e_intB, e_aug, e_on3, e_par3, e_newK, e_getK, e_keyI, e_keyS, e_inK, e_ninK, e_putK, e_lenK, e_lstS, e_seqX, e_gTpT, e_oN, e_oS, e_sl, e_slT, e_slL, e_finT, e_finN, e_index, e_idxT, e_idxL, e_mIx, e_ixST, e_ixSL, e_mtL, e_w, e_w1, e_w2, e_wE, e_wZ, e_itK, e_itT, e_itL, e_itT2, e_itL2, e_lc, e_for, e_wipe0, e_wipe, e_okI, e_okR, e_gSb, List.getElem?_cons_zero, List.getElem?_cons_succ, List.set_cons_zero, List.set_cons_succ]
      refine iteF' (by decide) ?_
      exact fin _ _ o4 (ob.of_perm (rot_perm base a)) po4
    · refine iteF' (decide_eq_false (by omega)) ?_
      try dsimp only
      rw [e_seq]
      try simp only [e_var, e_C, e_op, e_neg, e_isN, e_notN, e_and, e_or, e_not, e_test, e_tAnd, e_tOr, e_tNot, e_tYes, e_if, e_aNil, e_aCons, e_tup, e_lst, e_lstN, e_len0, e_len1, e_len2, e_len3, e_len4, e_len5, e_cb, e_on1, e_on2, e_onI, e_onB, e_onO, e_onO0, e_onOO, e_I0, e_I, e_add, e_addT, e_addS, e_addL, e_addLR, e_addRL, e_addRR, e_mul, e_mulL, e_mulT, e_rev, e_revT, e_ix, e_eqI, e_eqS, e_eqB, e_neI, e_neS, e_neB, e_ltI, e_chain, e_len, e_abs, e_2I, e_tuple1, e_tuple2, e_tuple3, e_listT, e_listN, e_allR, e_seqT, e_seqK, e_seqL, e_isi, e_isB, e_notB, e_truth, e_next, e_drop, e_ret, e_retN, e_ifS, e_set, e_asg, e_par, e_nm, e_gsN, e_gsC, e_gTpK, e_gTpL, e_sum, e_maxL, e_minL, e_maxDef, e_int, e_intB, e_aug, e_on3, e_par3, e_newK, e_getK, e_keyI, e_keyS, e_inK, e_ninK, e_putK, e_lenK, e_lstS, e_seqX, e_gTpT, e_oN, e_oS, e_sl, e_slT, e_slL, e_finT, e_finN, e_index, e_idxT, e_idxL, e_mIx, e_ixST, e_ixSL, e_mtL, e_w, e_w1, e_w2, e_wE, e_wZ, e_itK, e_itT, e_itL, e_itT2, e_itL2, e_lc, e_for, e_wipe0, e_wipe, e_okI, e_okR, e_gSb, List.getElem?_cons_zero, List.getElem?_cons_succ, List.set_cons_zero, List.set_cons_succ]
      by_cases w2 : way = 2
      · subst w2
        refine iteT' (by decide) ?_
        have c1 : cutD (base.map D.int) none (some 1) = (base.map D.int).take 1 := cutH _ 1
        obtain ⟨b0, bs, rfl⟩ : ∃ b0 bs, base = b0 :: bs := by
          cases base with
          | nil => simp at lb; omega
          | cons b0 bs => exact ⟨_, _, rfl⟩
        unfold rowD
        try simp only [e_var, e_C, e_op, e_neg, e_isN, e_notN, e_and, e_or, e_not, e_test, e_tAnd, e_tOr, e_tNot, e_tYes, e_if, e_aNil, e_aCons, e_tup, e_lst, e_lstN, e_len0, e_len1, e_len2, e_len3, e_len4, e_len5, e_cb, e_on1, e_on2, e_onI, e_onB, e_onO, e_onO0, e_onOO, e_I0, e_I, e_add, e_addT, e_addS, e_addL, e_addLR, e_addRL, e_addRR, e_mul, e_mulL, e_mulT, e_rev, e_revT, e_ix, e_eqI, e_eqS, e_eqB, e_neI, e_neS, e_neB, e_ltI, e_chain, e_len, e_abs, e_2I, e_tuple1, e_tuple2, e_tuple3, e_listT, e_listN, e_allR, e_seqT, e_seqK, e_seqL, e_isi, e_isB, e_notB, e_truth, e_next, e_drop, e_ret, e_retN, e_ifS, e_set, e_asg, e_par, e_nm, e_gsN, e_gsC, e_gTpK, e_gTpL, e_sum, e_maxL, e_minL, e_maxDef, e_int, e_intB, e_aug, e_on3, e_par3, e_newK, e_getK, e_keyI, e_keyS, e_inK, e_ninK, e_putK, e_lenK, e_lstS, e_seqX, e_gTpT, e_oN, e_oS, e_sl, e_slT, e_slL, e_finT, e_finN, e_index, e_idxT, e_idxL, e_mIx, e_ixST, e_ixSL, e_mtL, e_w, e_w1, e_w2, e_wE, e_wZ, e_itK, e_itT, e_itL, e_itT2, e_itL2, e_lc, e_for, e_wipe0, e_wipe, e_okI, e_okR, e_gSb, List.getElem?_cons_zero, List.getElem?_cons_succ, List.set_cons_zero, List.set_cons_succ, c1, List.length_map, oo.len]
        refine ⟨by omega, lc_if (fun d => match d with | .int x => !decide (x = b0) | _ => false) id (fun d hd Q' q' => ?_) (fun d hd _ Q' q' => ?_) ?_⟩
        · obtain ⟨x, _, rfl⟩ := List.mem_map.mp hd
          try simp only [e_var, e_C, e_op, e_neg, e_isN, e_notN, e_and, e_or, e_not, e_test, e_tAnd, e_tOr, e_tNot, e_tYes, e_if, e_aNil, e_aCons, e_tup, e_lst, e_lstN, e_len0, e_len1, e_len2, e_len3, e_len4, e_len5, e_cb, e_on1, e_on2, e_onI, e_onB, e_onO, e_onO0, e_onOO, e_I0, e_I, e_add, e_addT, e_addS, e_addL, e_addLR, e_addRL, e_addRR, e_mul, e_mulL, e_mulT, e_rev, e_revT, e_ix, e_eqI, e_eqS, e_eqB, e_neI, e_neS, e_neB, e_ltI, e_chain, e_len, e_abs, e_2I, e_tuple1, e_tuple2, e_tuple3, e_listT, e_listN, e_allR, e_seqT, e_seqK, e_seqL, e_isi, e_isB, e_notB, e_truth, e_next, e_drop, e_ret, e_retN, e_ifS, e_set, e_asg, e_par, e_nm, e_gsN, e_gsC, e_gTpK, e_gTpL, e_sum, e_maxL, e_minL, e_maxDef, e_int, e_intB, e_aug, e_on3, e_par3, e_newK, e_getK, e_keyI, e_keyS, e_inK, e_ninK, e_putK, e_lenK, e_lstS, e_seqX, e_gTpT, e_oN, e_oS, e_sl, e_slT, e_slL, e_finT, e_finN, e_index, e_idxT, e_idxL, e_mIx, e_ixST, e_ixSL, e_mtL, e_w, e_w1, e_w2, e_wE, e_wZ, e_itK, e_itT, e_itL, e_itT2, e_itL2, e_lc, e_for, e_wipe0, e_wipe, e_okI, e_okR, e_gSb, List.getElem?_cons_zero, List.getElem?_cons_succ, List.set_cons_zero, List.set_cons_succ, List.map_cons, at0]
          exact q'
        · try simp only [e_var, e_C, e_op, e_neg, e_isN, e_notN, e_and, e_or, e_not, e_test, e_tAnd, e_tOr, e_tNot, e_tYes, e_if, e_aNil, e_aCons, e_tup, e_lst, e_lstN, e_len0, e_len1, e_len2, e_len3, e_len4, e_len5, e_cb, e_on1, e_on2, e_onI, e_onB, e_onO, e_onO0, e_onOO, e_I0, e_I, e_add, e_addT, e_addS, e_addL, e_addLR, e_addRL, e_addRR, e_mul, e_mulL, e_mulT, e_rev, e_revT, e_ix, e_eqI, e_eqS, e_eqB, e_neI, e_neS, e_neB, e_ltI, e_chain, e_len, e_abs, e_2I, e_tuple1, e_tuple2, e_tuple3, e_listT, e_listN, e_allR, e_seqT, e_seqK, e_seqL, e_isi, e_isB, e_notB, e_truth, e_next, e_drop, e_ret, e_retN, e_ifS, e_set, e_asg, e_par, e_nm, e_gsN, e_gsC, e_gTpK, e_gTpL, e_sum, e_maxL, e_minL, e_maxDef, e_int, e_intB, e_aug, e_on3, e_par3, e_newK, e_getK, e_keyI, e_keyS, e_inK, e_ninK, e_putK, e_lenK, e_lstS, e_seqX, e_gTpT, e_oN, e_oS, e_sl, e_slT, e_slL, e_finT, e_finN, e_index, e_idxT, e_idxL, e_mIx, e_ixST, e_ixSL, e_mtL, e_w, e_w1, e_w2, e_wE, e_wZ, e_itK, e_itT, e_itL, e_itT2, e_itL2, e_lc, e_for, e_wipe0, e_wipe, e_okI, e_okR, e_gSb, List.getElem?_cons_zero, List.getElem?_cons_succ, List.set_cons_zero, List.set_cons_succ]
          exact q'
        rw [List.map_id]
        have ef : (ord.map D.int).filter (fun d => match d with | .int x => !decide (x = b0) | _ => false) = (ord.filter fun x => !decide (x = b0)).map D.int := by
          rw [List.filter_map]
          rfl
        rw [ef]
        try simp only [e_var, e_C, e_op, e_neg, e_isN, e_notN, e_and, e_or, e_not, e_test, e_tAnd, e_tOr, e_tNot, e_tYes, e_if, e_aNil, e_aCons, e_tup, e_lst, e_lstN, e_len0, e_len1, e_len2, e_len3, e_len4, e_len5, e_cb, e_on1, e_on2, e_onI, e_onB, e_onO, e_onO0, e_onOO, e_I0, e_I, e_add, e_addT, e_addS, e_addL, e_addLR, e_addRL, e_addRR, e_mul, e_mulL, e_mulT, e_rev, e_revT, e_ix, e_eqI, e_eqS, e_eqB, e_neI, e_neS, e_neB, e_ltI, e_chain, e_len, e_abs, e_2I, e_tuple1, e_tuple2, e_tuple3, e_listT, e_listN, e_allR, e_seqT, e_seqK, e_seqL, e_isi, e_isB, e_notB, e_truth, e_next, e_drop, e_ret, e_retN, e_ifS, e_set, e_asg, e_par, e_nm, e_gsN, e_gsC, e_gTpK, e_gTpL, e_sum, e_maxL, e_minL, e_maxDef, e_int, e_intB, e_aug, e_on3, e_par3, e_newK, e_getK, e_keyI, e_keyS, e_inK, e_ninK, e_putK, e_lenK, e_lstS, e_seqX, e_gTpT, e_oN, e_oS, e_sl, e_slT, e_slL, e_finT, e_finN, e_index, e_idxT, e_idxL, e_mIx, e_ixST, e_ixSL, e_mtL, e_w, e_w1, e_w2, e_wE, e_wZ, e_itK, e_itT, e_itL, e_itT2, e_itL2, e_lc, e_for, e_wipe0, e_wipe, e_okI, e_okR, e_gSb, List.getElem?_cons_zero, List.getElem?_cons_succ, List.set_cons_zero, List.set_cons_succ]
        have e3 : List.take 1 (List.map D.int (b0 :: bs)) ++ (ord.filter fun x => !decide (x = b0)).map D.int = ([b0] ++ ord.filter fun x => !decide (x = b0)).map D.int := rfl
        rw [e3]
        refine ⟨by have := List.length_filter_le (fun x => !decide (x = b0)) ord; rw [oo.len] at this; simp; omega, ?_⟩
        exact fin _ _ o3 (oo.of_perm (head_perm oo.nd (oo.mem.mpr (ob.mem.mp List.mem_cons_self)))) (po3.less (by omega))
      · refine iteF' (decide_eq_false (by omega)) ?_
        exact fin _ _ o3 oo (po3.less (by omega))
  · rintro r st' ⟨P, o, x6, x7, x8, rfl, rfl, oP, lP, po⟩
    try simp only [e_var, e_C, e_op, e_neg, e_isN, e_notN, e_and, e_or, e_not, e_test, e_tAnd, e_tOr, e_tNot, e_tYes, e_if, e_aNil, e_aCons, e_tup, e_lst, e_lstN, e_len0, e_len1, e_len2, e_len3, e_len4, e_len5, e_cb, e_on1, e_on2, e_onI, e_onB, e_onO, e_onO0, e_onOO, e_I0, e_I, e_add, e_addT, e_addS, e_addL, e_addLR, e_addRL, e_addRR, e_mul, e_mulL, e_mulT, e_rev, e_revT, e_ix, e_eqI, e_eqS, e_eqB, e_neI, e_neS, e_neB, e_ltI, e_chain, e_len, e_abs, e_2I, e_tuple1, e_tuple2, e_tuple3, e_listT, e_listN, e_allR, e_seqT, e_seqK, e_seqL, e_isi, e_isB, e_notB, e_truth, e_next, e_drop, e_ret, e_retN, e_ifS, e_set, e_asg, e_par, e_nm, e_gsN, e_gsC, e_gTpK, e_gTpL, e_sum, e_maxL, e_minL, e_maxDef, e_int, e_intB, e_aug, e_on3, e_par3, e_newK, e_getK, e_keyI, e_keyS, e_inK, e_ninK, e_putK, e_lenK, e_lstS, e_seqX, e_gTpT, e_oN, e_oS, e_sl, e_slT, e_slL, e_finT, e_finN, e_index, e_idxT, e_idxL, e_mIx, e_ixST, e_ixSL, e_mtL, e_w, e_w1, e_w2, e_wE, e_wZ, e_itK, e_itT, e_itL, e_itT2, e_itL2, e_lc, e_for, e_wipe0, e_wipe, e_okI, e_okR, e_gSb, List.getElem?_cons_zero, List.getElem?_cons_succ, List.set_cons_zero, List.set_cons_succ, seq_ref own0]
    exact rt_drop List.length_set (by simp only [DL.clo]; exact clos_rows _ _) (cs_set po) (q P o (by simpa using lP) oP (po.less (by omega)))
end DL
namespace DL
open PySem PySem.Spec PyProof.Rows L2 LamX PySem.W SL
theorem sorted_perm (ns : List Int) (le : Nat → Nat → Bool) : (((List.range ns.length).mergeSort le).map fun i : Nat => ns.getD i 0).Perm ns := by
  have h := (List.mergeSort_perm (List.range ns.length) le).map fun i : Nat => ns.getD i 0
  have e : (List.range ns.length).map (fun i : Nat => ns.getD i 0) = ns := by
    refine List.ext_getElem (by simp) fun i h1 h2 => ?_
    rw [List.getElem_map, List.getElem_range, List.getD_eq_getElem?_getD, List.getElem?_eq_getElem h2]
    rfl
  rw [e] at h
  exact h
def g_ordersA : DRs := fun ds st Q => ∃ (p k m n : Nat) (P : List (List Int)), ds = [.ref p, rowsD P] ∧ Pot (k + 400) p st ∧ 1 ≤ n ∧ n ≤ 16 ∧ P.length = m ∧ 1 ≤ m ∧ m ≤ 16 ∧ (∀ x ∈ P, Ord n x) ∧ ∀ (os : List (List Int)) (o : O), os.length = n → (∀ x ∈ os, Ord m x) → PotO k o → Q (rowsD os) (st.set p o)
theorem ar_ordersA (ds : List D) (st : DSt) (Q : DK) (h : g_ordersA ds st Q) : ds.length = 2 := by
  obtain ⟨_, _, _, _, _, rfl, _⟩ := h
  rfl
set_option maxHeartbeats 4000000 in
theorem sem_ordersA (ds : List D) (st : DSt) (Q : DK) (h : g_ordersA ds st Q) : F__law_drawn_orders g_take g_shuf { nx := fun _ st' => Rt st Q .non st', rt := Rt st Q } (startD 9 ds) st := by
  obtain ⟨p, k, m, n, P, rfl, pot, n1, n16, lP, m1, m16, oP, q⟩ := h
  have lt := pot.lt
  have st9 : startD 9 [D.ref p, rowsD P] = [some (.ref p), some (.tup (P.map rowD)), none, none, none, none, none, none, none] := rfl
  have big : (1000 : Nat) ≤ sizeLine := by decide
  have at_ : atI (P.map rowD) 0 = some (.tup ((P.getD 0 []).map D.int)) := rows_at (a := 0) (by omega)
  have l0 : (P.getD 0 []).length = n := (oP _ (getD_memL (by omega))).len
  simp only [F__law_drawn_orders, st9]
  try dsimp only
  rw [e_seq]
  try simp only [e_var, e_C, e_op, e_neg, e_isN, e_notN, e_and, e_or, e_not, e_test, e_tAnd, e_tOr, e_tNot, e_tYes, e_if, e_aNil, e_aCons, e_tup, e_lst, e_lstN, e_len0, e_len1, e_len2, e_len3, e_len4, e_len5, e_cb, e_on1, e_on2, e_onI, e_onB, e_onO, e_onO0, e_onOO, e_I0, e_I, e_add, e_addT, e_addS, e_addL, e_addLR, e_addRL, e_addRR, e_mul, e_mulL, e_mulT, e_rev, e_revT, e_ix, e_eqI, e_eqS, e_eqB, e_neI, e_neS, e_neB, e_ltI, e_chain, e_len, e_abs, e_2I, e_tuple1, e_tuple2, e_tuple3, e_listT, e_listN, e_allR, e_seqT, e_seqK, e_seqL, e_isi, e_isB, e_notB, e_truth, e_next, e_drop, e_ret, e_retN, e_ifS, e_set, e_asg, e_par, e_nm, e_gsN, e_gsC, e_gTpK, e_gTpL, e_sum, e_maxL, e_minL, e_maxDef, e_int, e_intB, e_aug, e_on3, e_par3, e_newK, e_getK, e_keyI, e_keyS, e_inK, e_ninK, e_putK, e_lenK, e_lstS, e_seqX, e_gTpT, e_oN, e_oS, e_sl, e_slT, e_slL, e_finT, e_finN, e_index, e_idxT, e_idxL, e_mIx, e_ixST, e_ixSL, e_mtL, e_w, e_w1, e_w2, e_wE, e_wZ, e_itK, e_itT, e_itL, e_itT2, e_itL2, e_lc, e_for, e_wipe0, e_wipe, e_okI, e_okR, e_gSb, List.getElem?_cons_zero, List.getElem?_cons_succ, List.set_cons_zero, List.set_cons_succ, at_, List.length_map, l0]
  refine take_ev (n := k + 399) pot (by decide) (by decide) fun way o1 lw po1 => ?_
  try simp only [e_var, e_C, e_op, e_neg, e_isN, e_notN, e_and, e_or, e_not, e_test, e_tAnd, e_tOr, e_tNot, e_tYes, e_if, e_aNil, e_aCons, e_tup, e_lst, e_lstN, e_len0, e_len1, e_len2, e_len3, e_len4, e_len5, e_cb, e_on1, e_on2, e_onI, e_onB, e_onO, e_onO0, e_onOO, e_I0, e_I, e_add, e_addT, e_addS, e_addL, e_addLR, e_addRL, e_addRR, e_mul, e_mulL, e_mulT, e_rev, e_revT, e_ix, e_eqI, e_eqS, e_eqB, e_neI, e_neS, e_neB, e_ltI, e_chain, e_len, e_abs, e_2I, e_tuple1, e_tuple2, e_tuple3, e_listT, e_listN, e_allR, e_seqT, e_seqK, e_seqL, e_isi, e_isB, e_notB, e_truth, e_next, e_drop, e_ret, e_retN, e_ifS, e_set, e_asg, e_par, e_nm, e_gsN, e_gsC, e_gTpK, e_gTpL, e_sum, e_maxL, e_minL, e_maxDef, e_int, e_intB, e_aug, e_on3, e_par3, e_newK, e_getK, e_keyI, e_keyS, e_inK, e_ninK, e_putK, e_lenK, e_lstS, e_seqX, e_gTpT, e_oN, e_oS, e_sl, e_slT, e_slL, e_finT, e_finN, e_index, e_idxT, e_idxL, e_mIx, e_ixST, e_ixSL, e_mtL, e_w, e_w1, e_w2, e_wE, e_wZ, e_itK, e_itT, e_itL, e_itT2, e_itL2, e_lc, e_for, e_wipe0, e_wipe, e_okI, e_okR, e_gSb, List.getElem?_cons_zero, List.getElem?_cons_succ, List.set_cons_zero, List.set_cons_succ, List.length_set]
  try dsimp only
  rw [e_seq]
  try simp only [e_var, e_C, e_op, e_neg, e_isN, e_notN, e_and, e_or, e_not, e_test, e_tAnd, e_tOr, e_tNot, e_tYes, e_if, e_aNil, e_aCons, e_tup, e_lst, e_lstN, e_len0, e_len1, e_len2, e_len3, e_len4, e_len5, e_cb, e_on1, e_on2, e_onI, e_onB, e_onO, e_onO0, e_onOO, e_I0, e_I, e_add, e_addT, e_addS, e_addL, e_addLR, e_addRL, e_addRR, e_mul, e_mulL, e_mulT, e_rev, e_revT, e_ix, e_eqI, e_eqS, e_eqB, e_neI, e_neS, e_neB, e_ltI, e_chain, e_len, e_abs, e_2I, e_tuple1, e_tuple2, e_tuple3, e_listT, e_listN, e_allR, e_seqT, e_seqK, e_seqL, e_isi, e_isB, e_notB, e_truth, e_next, e_drop, e_ret, e_retN, e_ifS, e_set, e_asg, e_par, e_nm, e_gsN, e_gsC, e_gTpK, e_gTpL, e_sum, e_maxL, e_minL, e_maxDef, e_int, e_intB, e_aug, e_on3, e_par3, e_newK, e_getK, e_keyI, e_keyS, e_inK, e_ninK, e_putK, e_lenK, e_lstS, e_seqX, e_gTpT, e_oN, e_oS, e_sl, e_slT, e_slL, e_finT, e_finN, e_index, e_idxT, e_idxL, e_mIx, e_ixST, e_ixSL, e_mtL, e_w, e_w1, e_w2, e_wE, e_wZ, e_itK, e_itT, e_itL, e_itT2, e_itL2, e_lc, e_for, e_wipe0, e_wipe, e_okI, e_okR, e_gSb, List.getElem?_cons_zero, List.getElem?_cons_succ, List.set_cons_zero, List.set_cons_succ, Int.toNat_natCast]
  refine ⟨⟨by omega, by omega⟩, ?_⟩
  refine for_inv (fun left r st' => ∃ (os : List (List Int)) (o : O) (x5 x6 x7 x8 : Option D), r = [some (.ref p), some (.tup (P.map rowD)), some (.int (n : Nat)), some (.int (way : Nat)), some (.ref st.length), x5, x6, x7, x8] ∧ st' = st.set p o ++ [.lst (os.map rowD)] ∧ (∀ x ∈ os, Ord m x) ∧ os.length + left.length = n ∧ (∀ d ∈ left, ∃ s : Nat, s < n ∧ d = .int (s : Nat)) ∧ PotO (k + left.length * 18) o) ?_ ?_ _ _ _ ⟨[], o1, _, _, _, _, rfl, rfl, fun x hx => (by cases hx), by rw [rgD_length]; simp, fun d hd => (by obtain ⟨i, li, rfl⟩ := rgD_mem hd; exact ⟨i, li, by rw [Int.zero_add]⟩), po1.less (by rw [rgD_length]; omega)⟩
  · rintro d left r st' N hN ⟨os, o, x5, x6, x7, x8, rfl, rfl, oo, lo, hl, po⟩
    rw [List.length_cons] at lo po
    rw [Nat.succ_mul] at po
    obtain ⟨s, ls, rfl⟩ := hl d List.mem_cons_self
    have hl' : ∀ d ∈ left, ∃ s : Nat, s < n ∧ d = .int (s : Nat) := fun d hd => hl d (List.mem_cons_of_mem _ hd)
    try simp only [e_var, e_C, e_op, e_neg, e_isN, e_notN, e_and, e_or, e_not, e_test, e_tAnd, e_tOr, e_tNot, e_tYes, e_if, e_aNil, e_aCons, e_tup, e_lst, e_lstN, e_len0, e_len1, e_len2, e_len3, e_len4, e_len5, e_cb, e_on1, e_on2, e_onI, e_onB, e_onO, e_onO0, e_onOO, e_I0, e_I, e_add, e_addT, e_addS, e_addL, e_addLR, e_addRL, e_addRR, e_mul, e_mulL, e_mulT, e_rev, e_revT, e_ix, e_eqI, e_eqS, e_eqB, e_neI, e_neS, e_neB, e_ltI, e_chain, e_len, e_abs, e_2I, e_tuple1, e_tuple2, e_tuple3, e_listT, e_listN, e_allR, e_seqT, e_seqK, e_seqL, e_isi, e_isB, e_notB, e_truth, e_next, e_drop, e_ret, e_retN, e_ifS, e_set, e_asg, e_par, e_nm, e_gsN, e_gsC, e_gTpK, e_gTpL, e_sum, e_maxL, e_minL, e_maxDef, e_int, e_intB, e_aug, e_on3, e_par3, e_newK, e_getK, e_keyI, e_keyS, e_inK, e_ninK, e_putK, e_lenK, e_lstS, e_seqX, e_gTpT, e_oN, e_oS, e_sl, e_slT, e_slL, e_finT, e_finN, e_index, e_idxT, e_idxL, e_mIx, e_ixST, e_ixSL, e_mtL, e_w, e_w1, e_w2, e_wE, e_wZ, e_itK, e_itT, e_itL, e_itT2, e_itL2, e_lc, e_for, e_wipe0, e_wipe, e_okI, e_okR, e_gSb, List.getElem?_cons_zero, List.getElem?_cons_succ, List.set_cons_zero, List.set_cons_succ]
    try dsimp only
    rw [e_seq]
    try simp only [e_var, e_C, e_op, e_neg, e_isN, e_notN, e_and, e_or, e_not, e_test, e_tAnd, e_tOr, e_tNot, e_tYes, e_if, e_aNil, e_aCons, e_tup, e_lst, e_lstN, e_len0, e_len1, e_len2, e_len3, e_len4, e_len5, e_cb, e_on1, e_on2, e_onI, e_onB, e_onO, e_onO0, e_onOO, e_I0, e_I, e_add, e_addT, e_addS, e_addL, e_addLR, e_addRL, e_addRR, e_mul, e_mulL, e_mulT, e_rev, e_revT, e_ix, e_eqI, e_eqS, e_eqB, e_neI, e_neS, e_neB, e_ltI, e_chain, e_len, e_abs, e_2I, e_tuple1, e_tuple2, e_tuple3, e_listT, e_listN, e_allR, e_seqT, e_seqK, e_seqL, e_isi, e_isB, e_notB, e_truth, e_next, e_drop, e_ret, e_retN, e_ifS, e_set, e_asg, e_par, e_nm, e_gsN, e_gsC, e_gTpK, e_gTpL, e_sum, e_maxL, e_minL, e_maxDef, e_int, e_intB, e_aug, e_on3, e_par3, e_newK, e_getK, e_keyI, e_keyS, e_inK, e_ninK, e_putK, e_lenK, e_lstS, e_seqX, e_gTpT, e_oN, e_oS, e_sl, e_slT, e_slL, e_finT, e_finN, e_index, e_idxT, e_idxL, e_mIx, e_ixST, e_ixSL, e_mtL, e_w, e_w1, e_w2, e_wE, e_wZ, e_itK, e_itT, e_itL, e_itT2, e_itL2, e_lc, e_for, e_wipe0, e_wipe, e_okI, e_okR, e_gSb, List.getElem?_cons_zero, List.getElem?_cons_succ, List.set_cons_zero, List.set_cons_succ]
    unfold dLRg1
    try simp only [e_var, e_C, e_op, e_neg, e_isN, e_notN, e_and, e_or, e_not, e_test, e_tAnd, e_tOr, e_tNot, e_tYes, e_if, e_aNil, e_aCons, e_tup, e_lst, e_lstN, e_len0, e_len1, e_len2, e_len3, e_len4, e_len5, e_cb, e_on1, e_on2, e_onI, e_onB, e_onO, e_onO0, e_onOO, e_I0, e_I, e_add, e_addT, e_addS, e_addL, e_addLR, e_addRL, e_addRR, e_mul, e_mulL, e_mulT, e_rev, e_revT, e_ix, e_eqI, e_eqS, e_eqB, e_neI, e_neS, e_neB, e_ltI, e_chain, e_len, e_abs, e_2I, e_tuple1, e_tuple2, e_tuple3, e_listT, e_listN, e_allR, e_seqT, e_seqK, e_seqL, e_isi, e_isB, e_notB, e_truth, e_next, e_drop, e_ret, e_retN, e_ifS, e_set, e_asg, e_par, e_nm, e_gsN, e_gsC, e_gTpK, e_gTpL, e_sum, e_maxL, e_minL, e_maxDef, e_int, e_intB, e_aug, e_on3, e_par3, e_newK, e_getK, e_keyI, e_keyS, e_inK, e_ninK, e_putK, e_lenK, e_lstS, e_seqX, e_gTpT, e_oN, e_oS, e_sl, e_slT, e_slL, e_finT, e_finN, e_index, e_idxT, e_idxL, e_mIx, e_ixST, e_ixSL, e_mtL, e_w, e_w1, e_w2, e_wE, e_wZ, e_itK, e_itT, e_itL, e_itT2, e_itL2, e_lc, e_for, e_wipe0, e_wipe, e_okI, e_okR, e_gSb, List.getElem?_cons_zero, List.getElem?_cons_succ, List.set_cons_zero, List.set_cons_succ, List.length_map, lP, Int.toNat_natCast]
    refine ⟨RgOk.of_le (by decide) (by omega) (by decide) (by omega), shuf_rg (k := k + left.length * 18 + 1) (by omega) (pot_at lt (po.less (by omega))) fun ord o3 oo3 po3 => ?_⟩
    rw [pot_app lt]
    have fin : ∀ (x6 x7 : Option D) (ord : List Int) (o4 : O), Ord m ord → PotO (k + left.length * 18) o4 → sDrop (dMtL mAppend (dVar 4) (daCons (dVar 5) daNil)) { nx := N, rt := Rt st Q, bk := sRet (dCB dTuple (daCons (dVar 4) daNil)) { nx := fun x st' => Rt st Q D.non st', rt := Rt st Q }, ct := N } [some (.ref p), some (.tup (P.map rowD)), some (.int (n : Nat)), some (.int (way : Nat)), some (.ref st.length), some (rowD ord), x6, x7, some (.int (s : Nat))] (st.set p o4 ++ [.lst (os.map rowD)]) := fun x6 x7 ord o4 o5 po4 => by
      try simp only [e_var, e_C, e_op, e_neg, e_isN, e_notN, e_and, e_or, e_not, e_test, e_tAnd, e_tOr, e_tNot, e_tYes, e_if, e_aNil, e_aCons, e_tup, e_lst, e_lstN, e_len0, e_len1, e_len2, e_len3, e_len4, e_len5, e_cb, e_on1, e_on2, e_onI, e_onB, e_onO, e_onO0, e_onOO, e_I0, e_I, e_add, e_addT, e_addS, e_addL, e_addLR, e_addRL, e_addRR, e_mul, e_mulL, e_mulT, e_rev, e_revT, e_ix, e_eqI, e_eqS, e_eqB, e_neI, e_neS, e_neB, e_ltI, e_chain, e_len, e_abs, e_2I, e_tuple1, e_tuple2, e_tuple3, e_listT, e_listN, e_allR, e_seqT, e_seqK, e_seqL, e_isi, e_isB, e_notB, e_truth, e_next, e_drop, e_ret, e_retN, e_ifS, e_set, e_asg, e_par, e_nm, e_gsN, e_gsC, e_gTpK, e_gTpL, e_sum, e_maxL, e_minL, e_maxDef, e_int, e_intB, e_aug, e_on3, e_par3, e_newK, e_getK, e_keyI, e_keyS, e_inK, e_ninK, e_putK, e_lenK, e_lstS, e_seqX, e_gTpT, e_oN, e_oS, e_sl, e_slT, e_slL, e_finT, e_finN, e_index, e_idxT, e_idxL, e_mIx, e_ixST, e_ixSL, e_mtL, e_w, e_w1, e_w2, e_wE, e_wZ, e_itK, e_itT, e_itL, e_itT2, e_itL2, e_lc, e_for, e_wipe0, e_wipe, e_okI, e_okR, e_gSb, List.getElem?_cons_zero, List.getElem?_cons_succ, List.set_cons_zero, List.set_cons_succ]
      refine ⟨by unfold LstD; simp only [own0], append_ref own0 (by rw [List.length_map]; omega) ?_⟩
      rw [put0]
      refine hN _ _ (.inl ⟨os ++ [ord], o4, some (rowD ord), x6, x7, some (.int (s : Nat)), rfl, by rw [List.map_append]; rfl, fun x hx => ?_, by rw [List.length_append]; simp; omega, hl', po4⟩)
      rcases List.mem_append.mp hx with z | z
      · exact oo x z
      · rw [List.mem_singleton.mp z]; exact o5
    try dsimp only
    rw [e_seq]
    try simp only [e_var, e_C, e_op, e_neg, e_isN, e_notN, e_and, e_or, e_not, e_test, e_tAnd, e_tOr, e_tNot, e_tYes, e_if, e_aNil, e_aCons, e_tup, e_lst, e_lstN, e_len0, e_len1, e_len2, e_len3, e_len4, e_len5, e_cb, e_on1, e_on2, e_onI, e_onB, e_onO, e_onO0, e_onOO, e_I0, e_I, e_add, e_addT, e_addS, e_addL, e_addLR, e_addRL, e_addRR, e_mul, e_mulL, e_mulT, e_rev, e_revT, e_ix, e_eqI, e_eqS, e_eqB, e_neI, e_neS, e_neB, e_ltI, e_chain, e_len, e_abs, e_2I, e_tuple1, e_tuple2, e_tuple3, e_listT, e_listN, e_allR, e_seqT, e_seqK, e_seqL, e_isi, e_isB, e_notB, e_truth, e_next, e_drop, e_ret, e_retN, e_ifS, e_set, e_asg, e_par, e_nm, e_gsN, e_gsC, e_gTpK, e_gTpL, e_sum, e_maxL, e_minL, e_maxDef, e_int, e_intB, e_aug, e_on3, e_par3, e_newK, e_getK, e_keyI, e_keyS, e_inK, e_ninK, e_putK, e_lenK, e_lstS, e_seqX, e_gTpT, e_oN, e_oS, e_sl, e_slT, e_slL, e_finT, e_finN, e_index, e_idxT, e_idxL, e_mIx, e_ixST, e_ixSL, e_mtL, e_w, e_w1, e_w2, e_wE, e_wZ, e_itK, e_itT, e_itL, e_itT2, e_itL2, e_lc, e_for, e_wipe0, e_wipe, e_okI, e_okR, e_gSb, List.getElem?_cons_zero, List.getElem?_cons_succ, List.set_cons_zero, List.set_cons_succ]
    by_cases w0 : way = 0
    · subst w0
      refine iteF' (by decide) ?_
      exact fin _ _ ord o3 oo3 (po3.less (by omega))
    · refine iteT' (decide_eq_true (by omega)) ?_
      try dsimp only
      rw [e_seq]
      try simp only [e_var, e_C, e_op, e_neg, e_isN, e_notN, e_and, e_or, e_not, e_test, e_tAnd, e_tOr, e_tNot, e_tYes, e_if, e_aNil, e_aCons, e_tup, e_lst, e_lstN, e_len0, e_len1, e_len2, e_len3, e_len4, e_len5, e_cb, e_on1, e_on2, e_onI, e_onB, e_onO, e_onO0, e_onOO, e_I0, e_I, e_add, e_addT, e_addS, e_addL, e_addLR, e_addRL, e_addRR, e_mul, e_mulL, e_mulT, e_rev, e_revT, e_ix, e_eqI, e_eqS, e_eqB, e_neI, e_neS, e_neB, e_ltI, e_chain, e_len, e_abs, e_2I, e_tuple1, e_tuple2, e_tuple3, e_listT, e_listN, e_allR, e_seqT, e_seqK, e_seqL, e_isi, e_isB, e_notB, e_truth, e_next, e_drop, e_ret, e_retN, e_ifS, e_set, e_asg, e_par, e_nm, e_gsN, e_gsC, e_gTpK, e_gTpL, e_sum, e_maxL, e_minL, e_maxDef, e_int, e_intB, e_aug, e_on3, e_par3, e_newK, e_getK, e_keyI, e_keyS, e_inK, e_ninK, e_putK, e_lenK, e_lstS, e_seqX, e_gTpT, e_oN, e_oS, e_sl, e_slT, e_slL, e_finT, e_finN, e_index, e_idxT, e_idxL, e_mIx, e_ixST, e_ixSL, e_mtL, e_w, e_w1, e_w2, e_wE, e_wZ, e_itK, e_itT, e_itL, e_itT2, e_itL2, e_lc, e_for, e_wipe0, e_wipe, e_okI, e_okR, e_gSb, List.getElem?_cons_zero, List.getElem?_cons_succ, List.set_cons_zero, List.set_cons_succ]
      unfold dSortS onNs
      have sq : seqS (st.set p o3 ++ [O.lst (os.map rowD)]) (rowD ord) = some (ord.map D.int) := rfl
      try simp only [e_var, e_C, e_op, e_neg, e_isN, e_notN, e_and, e_or, e_not, e_test, e_tAnd, e_tOr, e_tNot, e_tYes, e_if, e_aNil, e_aCons, e_tup, e_lst, e_lstN, e_len0, e_len1, e_len2, e_len3, e_len4, e_len5, e_cb, e_on1, e_on2, e_onI, e_onB, e_onO, e_onO0, e_onOO, e_I0, e_I, e_add, e_addT, e_addS, e_addL, e_addLR, e_addRL, e_addRR, e_mul, e_mulL, e_mulT, e_rev, e_revT, e_ix, e_eqI, e_eqS, e_eqB, e_neI, e_neS, e_neB, e_ltI, e_chain, e_len, e_abs, e_2I, e_tuple1, e_tuple2, e_tuple3, e_listT, e_listN, e_allR, e_seqT, e_seqK, e_seqL, e_isi, e_isB, e_notB, e_truth, e_next, e_drop, e_ret, e_retN, e_ifS, e_set, e_asg, e_par, e_nm, e_gsN, e_gsC, e_gTpK, e_gTpL, e_sum, e_maxL, e_minL, e_maxDef, e_int, e_intB, e_aug, e_on3, e_par3, e_newK, e_getK, e_keyI, e_keyS, e_inK, e_ninK, e_putK, e_lenK, e_lstS, e_seqX, e_gTpT, e_oN, e_oS, e_sl, e_slT, e_slL, e_finT, e_finN, e_index, e_idxT, e_idxL, e_mIx, e_ixST, e_ixSL, e_mtL, e_w, e_w1, e_w2, e_wE, e_wZ, e_itK, e_itT, e_itL, e_itT2, e_itL2, e_lc, e_for, e_wipe0, e_wipe, e_okI, e_okR, e_gSb, List.getElem?_cons_zero, List.getElem?_cons_succ, List.set_cons_zero, List.set_cons_succ, sq, intsD_ints]
      have lo3 := oo3.len
      refine ⟨by omega, fun i => .tuple [.int (-((rk P (ord.getD i 0).toNat s : Nat) : Int)), .int (ord.getD i 0)], ⟨fun d hd d' hd' => ?_, .inl fun d hd => ?_, fun i => ?_⟩, fun i z hz => ?_, ?_⟩
      · obtain ⟨a, _, rfl⟩ := List.mem_map.mp hd
        obtain ⟨b, _, rfl⟩ := List.mem_map.mp hd'
        rfl
      · obtain ⟨a, _, rfl⟩ := List.mem_map.mp hd
        exact ⟨_, _, rfl⟩
      · simp [PyData.depth, PyData.depthAll]
      · have ez : ord.getD i 0 = z := by rw [List.getD_eq_getElem?_getD, hz]; rfl
        have mz := oo3.mem.mp (List.mem_of_getElem? hz)
        obtain ⟨c, rfl⟩ : ∃ c : Nat, z = (c : Int) := ⟨z.toNat, by omega⟩
        have lc : c < P.length := by omega
        have ms : (s : Int) ∈ P.getD c [] := (oP _ (getD_memL lc)).mem.mpr (by omega)
        refine ⟨.tuk [.int (-((rk P c s : Nat) : Int)), .int (c : Nat)], ?_, .inr ⟨_, _, rfl, by dsimp only; rw [ez]; rfl⟩⟩
        have e1 : pIx (pVar 1) (pVar 9) ([some (.ref p), some (.tup (P.map rowD)), some (.int (n : Nat)), some (.int (way : Nat)), some (.ref st.length), some (rowD ord), x6, x7, some (.int (s : Nat))] ++ [some (.int (c : Int))]) (st.set p o3 ++ [.lst (os.map rowD)]) = some (rowD (P.getD c [])) := by
          show atI (P.map rowD) (c : Int) = _
          exact rows_at lc
        unfold pTup2 pNeg pIndex
        rw [e1]
        unfold rowD
        simp only [pVar, List.cons_append, List.nil_append, List.getElem?_cons_zero, List.getElem?_cons_succ, intsD_ints, (pos_at ms).2, Option.map_some]
        rfl
      · have pm := sorted_perm ord (dataLe false fun i => .tuple [.int (-((rk P (ord.getD i 0).toNat s : Nat) : Int)), .int (ord.getD i 0)])
        generalize hs : ((List.range ord.length).mergeSort (dataLe false fun i => .tuple [.int (-((rk P (ord.getD i 0).toNat s : Nat) : Int)), .int (ord.getD i 0)])) = xs at pm
        have em : (xs.map fun i : Nat => D.int (ord.getD i 0)) = (xs.map fun i : Nat => ord.getD i 0).map D.int := by rw [List.map_map]; rfl
        rw [em]
        generalize (xs.map fun i : Nat => ord.getD i 0) = ys at pm
        have oy : Ord m ys := oo3.of_perm pm
        have ly := oy.len
        try simp only [e_var, e_C, e_op, e_neg, e_isN, e_notN, e_and, e_or, e_not, e_test, e_tAnd, e_tOr, e_tNot, e_tYes, e_if, e_aNil, e_aCons, e_tup, e_lst, e_lstN, e_len0, e_len1, e_len2, e_len3, e_len4, e_len5, e_cb, e_on1, e_on2, e_onI, e_onB, e_onO, e_onO0, e_onOO, e_I0, e_I, e_add, e_addT, e_addS, e_addL, e_addLR, e_addRL, e_addRR, e_mul, e_mulL, e_mulT, e_rev, e_revT, e_ix, e_eqI, e_eqS, e_eqB, e_neI, e_neS, e_neB, e_ltI, e_chain, e_len, e_abs, e_2I, e_tuple1, e_tuple2, e_tuple3, e_listT, e_listN, e_allR, e_seqT, e_seqK, e_seqL, e_isi, e_isB, e_notB, e_truth, e_next, e_drop, e_ret, e_retN, e_ifS, e_set, e_asg, e_par, e_nm, e_gsN, e_gsC, e_gTpK, e_gTpL, e_sum, e_maxL, e_minL, e_maxDef, e_int, e_intB, e_aug, e_on3, e_par3, e_newK, e_getK, e_keyI, e_keyS, e_inK, e_ninK, e_putK, e_lenK, e_lstS, e_seqX, e_gTpT, e_oN, e_oS, e_sl, e_slT, e_slL, e_finT, e_finN, e_index, e_idxT, e_idxL, e_mIx, e_ixST, e_ixSL, e_mtL, e_w, e_w1, e_w2, e_wE, e_wZ, e_itK, e_itT, e_itL, e_itT2, e_itL2, e_lc, e_for, e_wipe0, e_wipe, e_okI, e_okR, e_gSb, List.getElem?_cons_zero, List.getElem?_cons_succ, List.set_cons_zero, List.set_cons_succ]
        try dsimp only
        rw [e_seq]
        try simp only [e_var, e_C, e_op, e_neg, e_isN, e_notN, e_and, e_or, e_not, e_test, e_tAnd, e_tOr, e_tNot, e_tYes, e_if, e_aNil, e_aCons, e_tup, e_lst, e_lstN, e_len0, e_len1, e_len2, e_len3, e_len4, e_len5, e_cb, e_on1, e_on2, e_onI, e_onB, e_onO, e_onO0, e_onOO, e_I0, e_I, e_add, e_addT, e_addS, e_addL, e_addLR, e_addRL, e_addRR, e_mul, e_mulL, e_mulT, e_rev, e_revT, e_ix, e_eqI, e_eqS, e_eqB, e_neI, e_neS, e_neB, e_ltI, e_chain, e_len, e_abs, e_2I, e_tuple1, e_tuple2, e_tuple3, e_listT, e_listN, e_allR, e_seqT, e_seqK, e_seqL, e_isi, e_isB, e_notB, e_truth, e_next, e_drop, e_ret, e_retN, e_ifS, e_set, e_asg, e_par, e_nm, e_gsN, e_gsC, e_gTpK, e_gTpL, e_sum, e_maxL, e_minL, e_maxDef, e_int, e_intB, e_aug, e_on3, e_par3, e_newK, e_getK, e_keyI, e_keyS, e_inK, e_ninK, e_putK, e_lenK, e_lstS, e_seqX, e_gTpT, e_oN, e_oS, e_sl, e_slT, e_slL, e_finT, e_finN, e_index, e_idxT, e_idxL, e_mIx, e_ixST, e_ixSL, e_mtL, e_w, e_w1, e_w2, e_wE, e_wZ, e_itK, e_itT, e_itL, e_itT2, e_itL2, e_lc, e_for, e_wipe0, e_wipe, e_okI, e_okR, e_gSb, List.getElem?_cons_zero, List.getElem?_cons_succ, List.set_cons_zero, List.set_cons_succ, List.length_map, ly]
        refine take_ev (n := k + left.length * 18) (pot_at lt po3) (by omega) (by omega) fun a o4 la po4 => ?_
        rw [pot_app lt]
        try dsimp only
        rw [e_seq]
        try simp only [e_var, e_C, e_op, e_neg, e_isN, e_notN, e_and, e_or, e_not, e_test, e_tAnd, e_tOr, e_tNot, e_tYes, e_if, e_aNil, e_aCons, e_tup, e_lst, e_lstN, e_len0, e_len1, e_len2, e_len3, e_len4, e_len5, e_cb, e_on1, e_on2, e_onI, e_onB, e_onO, e_onO0, e_onOO, e_I0, e_I, e_add, e_addT, e_addS, e_addL, e_addLR, e_addRL, e_addRR, e_mul, e_mulL, e_mulT, e_rev, e_revT, e_ix, e_eqI, e_eqS, e_eqB, e_neI, e_neS, e_neB, e_ltI, e_chain, e_len, e_abs, e_2I, e_tuple1, e_tuple2, e_tuple3, e_listT, e_listN, e_allR, e_seqT, e_seqK, e_seqL, e_isi, e_isB, e_notB, e_truth, e_next, e_drop, e_ret, e_retN, e_ifS, e_set, e_asg, e_par, e_nm, e_gsN, e_gsC, e_gTpK, e_gTpL, e_sum, e_maxL, e_minL, e_maxDef, e_int, e_intB, e_aug, e_on3, e_par3, e_newK, e_getK, e_keyI, e_keyS, e_inK, e_ninK, e_putK, e_lenK, e_lstS, e_seqX, e_gTpT, e_oN, e_oS, e_sl, e_slT, e_slL, e_finT, e_finN, e_index, e_idxT, e_idxL, e_mIx, e_ixST, e_ixSL, e_mtL, e_w, e_w1, e_w2, e_wE, e_wZ, e_itK, e_itT, e_itL, e_itT2, e_itL2, e_lc, e_for, e_wipe0, e_wipe, e_okI, e_okR, e_gSb, List.getElem?_cons_zero, List.getElem?_cons_succ, List.set_cons_zero, List.set_cons_succ]
        have ea : (a : Int) + (way : Int) = ((a + way : Nat) : Int) := by omega
        rw [ea, cutM (by rw [List.length_map]; omega) (by omega)]
        try simp only [e_var, e_C, e_op, e_neg, e_isN, e_notN, e_and, e_or, e_not, e_test, e_tAnd, e_tOr, e_tNot, e_tYes, e_if, e_aNil, e_aCons, e_tup, e_lst, e_lstN, e_len0, e_len1, e_len2, e_len3, e_len4, e_len5, e_cb, e_on1, e_on2, e_onI, e_onB, e_onO, e_onO0, e_onOO, e_I0, e_I, e_add, e_addT, e_addS, e_addL, e_addLR, e_addRL, e_addRR, e_mul, e_mulL, e_mulT, e_rev, e_revT, e_ix, e_eqI, e_eqS, e_eqB, e_neI, e_neS, e_neB, e_ltI, e_chain, e_len, e_abs, e_2I, e_tuple1, e_tuple2, e_tuple3, e_listT, e_listN, e_allR, e_seqT, e_seqK, e_seqL, e_isi, e_isB, e_notB, e_truth, e_next, e_drop, e_ret, e_retN, e_ifS, e_set, e_asg, e_par, e_nm, e_gsN, e_gsC, e_gTpK, e_gTpL, e_sum, e_maxL, e_minL, e_maxDef, e_int, e_intB, e_aug, e_on3, e_par3, e_newK, e_getK, e_keyI, e_keyS, e_inK, e_ninK, e_putK, e_lenK, e_lstS, e_seqX, e_gTpT, e_oN, e_oS, e_sl, e_slT, e_slL, e_finT, e_finN, e_index, e_idxT, e_idxL, e_mIx, e_ixST, e_ixSL, e_mtL, e_w, e_w1, e_w2, e_wE, e_wZ, e_itK, e_itT, e_itL, e_itT2, e_itL2, e_lc, e_for, e_wipe0, e_wipe, e_okI, e_okR, e_gSb, List.getElem?_cons_zero, List.getElem?_cons_succ, List.set_cons_zero, List.set_cons_succ]
        rw [cutH, cutN, show a + way - a = way by omega]
        have ez : (ys.map D.int).take a ++ (((ys.map D.int).drop a).take way).reverse ++ (ys.map D.int).drop (a + way) = (ys.take a ++ ((ys.drop a).take way).reverse ++ ys.drop (a + way)).map D.int := by
          rw [List.map_append, List.map_append, List.map_reverse, List.map_take, List.map_take, List.map_drop, List.map_drop]
        rw [ez]
        refine ⟨by simp; omega, by simp; omega, ?_⟩
        exact fin _ _ _ o4 (oy.of_perm (turn_perm ys a way)) po4
  · rintro r st' ⟨os, o, x5, x6, x7, x8, rfl, rfl, oo, lo, hl, po⟩
    try simp only [e_var, e_C, e_op, e_neg, e_isN, e_notN, e_and, e_or, e_not, e_test, e_tAnd, e_tOr, e_tNot, e_tYes, e_if, e_aNil, e_aCons, e_tup, e_lst, e_lstN, e_len0, e_len1, e_len2, e_len3, e_len4, e_len5, e_cb, e_on1, e_on2, e_onI, e_onB, e_onO, e_onO0, e_onOO, e_I0, e_I, e_add, e_addT, e_addS, e_addL, e_addLR, e_addRL, e_addRR, e_mul, e_mulL, e_mulT, e_rev, e_revT, e_ix, e_eqI, e_eqS, e_eqB, e_neI, e_neS, e_neB, e_ltI, e_chain, e_len, e_abs, e_2I, e_tuple1, e_tuple2, e_tuple3, e_listT, e_listN, e_allR, e_seqT, e_seqK, e_seqL, e_isi, e_isB, e_notB, e_truth, e_next, e_drop, e_ret, e_retN, e_ifS, e_set, e_asg, e_par, e_nm, e_gsN, e_gsC, e_gTpK, e_gTpL, e_sum, e_maxL, e_minL, e_maxDef, e_int, e_intB, e_aug, e_on3, e_par3, e_newK, e_getK, e_keyI, e_keyS, e_inK, e_ninK, e_putK, e_lenK, e_lstS, e_seqX, e_gTpT, e_oN, e_oS, e_sl, e_slT, e_slL, e_finT, e_finN, e_index, e_idxT, e_idxL, e_mIx, e_ixST, e_ixSL, e_mtL, e_w, e_w1, e_w2, e_wE, e_wZ, e_itK, e_itT, e_itL, e_itT2, e_itL2, e_lc, e_for, e_wipe0, e_wipe, e_okI, e_okR, e_gSb, List.getElem?_cons_zero, List.getElem?_cons_succ, List.set_cons_zero, List.set_cons_succ, seq_ref own0]
    exact rt_drop List.length_set (by simp only [DL.clo]; exact clos_rows _ _) (cs_set po) (q os o (by simpa using lo) oo (po.less (by omega)))
theorem clos_tabs (n : Nat) : ∀ R : List (List (List Int)), clos n (R.map rowsD) = true
  | [] => rfl
  | x :: r => by
    rw [List.map_cons]
    show (clo n (rowsD x) && clos n (r.map rowsD)) = true
    rw [clos_tabs n r, Bool.and_true]
    simp only [rowsD, clo]
    exact clos_rows n x
set_option maxHeartbeats 1000000 in
theorem sem_ruleA (ds : List D) (st : DSt) (Q : DK) (h : g_ruleOf ds st Q) : F__law_rule_of { nx := fun _ st' => Rt st Q .non st', rt := Rt st Q } (startD 4 ds) st := by
  obtain ⟨n, os, rfl, oo, n60, l60, q⟩ := h
  have st4 : startD 4 [rowsD os] = [some (.tup (os.map rowD)), none, none, none] := rfl
  have big : (1000 : Nat) ≤ sizeLine := by decide
  simp only [F__law_rule_of, st4]
  try dsimp only
  rw [e_seq]
  try simp only [e_var, e_C, e_op, e_neg, e_isN, e_notN, e_and, e_or, e_not, e_test, e_tAnd, e_tOr, e_tNot, e_tYes, e_if, e_aNil, e_aCons, e_tup, e_lst, e_lstN, e_len0, e_len1, e_len2, e_len3, e_len4, e_len5, e_cb, e_on1, e_on2, e_onI, e_onB, e_onO, e_onO0, e_onOO, e_I0, e_I, e_add, e_addT, e_addS, e_addL, e_addLR, e_addRL, e_addRR, e_mul, e_mulL, e_mulT, e_rev, e_revT, e_ix, e_eqI, e_eqS, e_eqB, e_neI, e_neS, e_neB, e_ltI, e_chain, e_len, e_abs, e_2I, e_tuple1, e_tuple2, e_tuple3, e_listT, e_listN, e_allR, e_seqT, e_seqK, e_seqL, e_isi, e_isB, e_notB, e_truth, e_next, e_drop, e_ret, e_retN, e_ifS, e_set, e_asg, e_par, e_nm, e_gsN, e_gsC, e_gTpK, e_gTpL, e_sum, e_maxL, e_minL, e_maxDef, e_int, e_intB, e_aug, e_on3, e_par3, e_newK, e_getK, e_keyI, e_keyS, e_inK, e_ninK, e_putK, e_lenK, e_lstS, e_seqX, e_gTpT, e_oN, e_oS, e_sl, e_slT, e_slL, e_finT, e_finN, e_index, e_idxT, e_idxL, e_mIx, e_ixST, e_ixSL, e_mtL, e_w, e_w1, e_w2, e_wE, e_wZ, e_itK, e_itT, e_itL, e_itT2, e_itL2, e_lc, e_for, e_wipe0, e_wipe, e_okI, e_okR, e_gSb, List.getElem?_cons_zero, List.getElem?_cons_succ, List.set_cons_zero, List.set_cons_succ]
  try dsimp only
  rw [e_seq]
  try simp only [e_var, e_C, e_op, e_neg, e_isN, e_notN, e_and, e_or, e_not, e_test, e_tAnd, e_tOr, e_tNot, e_tYes, e_if, e_aNil, e_aCons, e_tup, e_lst, e_lstN, e_len0, e_len1, e_len2, e_len3, e_len4, e_len5, e_cb, e_on1, e_on2, e_onI, e_onB, e_onO, e_onO0, e_onOO, e_I0, e_I, e_add, e_addT, e_addS, e_addL, e_addLR, e_addRL, e_addRR, e_mul, e_mulL, e_mulT, e_rev, e_revT, e_ix, e_eqI, e_eqS, e_eqB, e_neI, e_neS, e_neB, e_ltI, e_chain, e_len, e_abs, e_2I, e_tuple1, e_tuple2, e_tuple3, e_listT, e_listN, e_allR, e_seqT, e_seqK, e_seqL, e_isi, e_isB, e_notB, e_truth, e_next, e_drop, e_ret, e_retN, e_ifS, e_set, e_asg, e_par, e_nm, e_gsN, e_gsC, e_gTpK, e_gTpL, e_sum, e_maxL, e_minL, e_maxDef, e_int, e_intB, e_aug, e_on3, e_par3, e_newK, e_getK, e_keyI, e_keyS, e_inK, e_ninK, e_putK, e_lenK, e_lstS, e_seqX, e_gTpT, e_oN, e_oS, e_sl, e_slT, e_slL, e_finT, e_finN, e_index, e_idxT, e_idxL, e_mIx, e_ixST, e_ixSL, e_mtL, e_w, e_w1, e_w2, e_wE, e_wZ, e_itK, e_itT, e_itL, e_itT2, e_itL2, e_lc, e_for, e_wipe0, e_wipe, e_okI, e_okR, e_gSb, List.getElem?_cons_zero, List.getElem?_cons_succ, List.set_cons_zero, List.set_cons_succ]
  refine for_list rowD (fun left r st' => ∃ (dn : List (List Int)) (x2 : Option D), dn ++ left = os ∧ r = [some (.tup (os.map rowD)), some (.ref st.length), x2, none] ∧ st' = st ++ [.lst (dn.map fun ns => rowsD (ordT ns))]) ?_ ?_ os _ _ ⟨[], _, rfl, rfl, rfl⟩
  · rintro ns left r st' N hN ⟨dn, x2, e, rfl, rfl⟩
    have on : Ord n ns := oo ns (by rw [← e]; simp)
    have ln := on.len
    have ll : dn.length < os.length := by rw [← e]; simp
    unfold rowD
    try simp only [e_var, e_C, e_op, e_neg, e_isN, e_notN, e_and, e_or, e_not, e_test, e_tAnd, e_tOr, e_tNot, e_tYes, e_if, e_aNil, e_aCons, e_tup, e_lst, e_lstN, e_len0, e_len1, e_len2, e_len3, e_len4, e_len5, e_cb, e_on1, e_on2, e_onI, e_onB, e_onO, e_onO0, e_onOO, e_I0, e_I, e_add, e_addT, e_addS, e_addL, e_addLR, e_addRL, e_addRR, e_mul, e_mulL, e_mulT, e_rev, e_revT, e_ix, e_eqI, e_eqS, e_eqB, e_neI, e_neS, e_neB, e_ltI, e_chain, e_len, e_abs, e_2I, e_tuple1, e_tuple2, e_tuple3, e_listT, e_listN, e_allR, e_seqT, e_seqK, e_seqL, e_isi, e_isB, e_notB, e_truth, e_next, e_drop, e_ret, e_retN, e_ifS, e_set, e_asg, e_par, e_nm, e_gsN, e_gsC, e_gTpK, e_gTpL, e_sum, e_maxL, e_minL, e_maxDef, e_int, e_intB, e_aug, e_on3, e_par3, e_newK, e_getK, e_keyI, e_keyS, e_inK, e_ninK, e_putK, e_lenK, e_lstS, e_seqX, e_gTpT, e_oN, e_oS, e_sl, e_slT, e_slL, e_finT, e_finN, e_index, e_idxT, e_idxL, e_mIx, e_ixST, e_ixSL, e_mtL, e_w, e_w1, e_w2, e_wE, e_wZ, e_itK, e_itT, e_itL, e_itT2, e_itL2, e_lc, e_for, e_wipe0, e_wipe, e_okI, e_okR, e_gSb, List.getElem?_cons_zero, List.getElem?_cons_succ, List.set_cons_zero, List.set_cons_succ, List.length_map, rgD_length, Int.toNat_natCast]
    refine ⟨by unfold LstD; simp only [ownA], ⟨by omega, by omega⟩, by omega, lc_rng (fun k => rowD (sortI (ns.drop (pos ns (k : Int) + 1)))) (fun k lt Q' q' => ?_) ?_⟩
    · have mk : (k : Int) ∈ ns := on.mem.mpr (by omega)
      try simp only [e_var, e_C, e_op, e_neg, e_isN, e_notN, e_and, e_or, e_not, e_test, e_tAnd, e_tOr, e_tNot, e_tYes, e_if, e_aNil, e_aCons, e_tup, e_lst, e_lstN, e_len0, e_len1, e_len2, e_len3, e_len4, e_len5, e_cb, e_on1, e_on2, e_onI, e_onB, e_onO, e_onO0, e_onOO, e_I0, e_I, e_add, e_addT, e_addS, e_addL, e_addLR, e_addRL, e_addRR, e_mul, e_mulL, e_mulT, e_rev, e_revT, e_ix, e_eqI, e_eqS, e_eqB, e_neI, e_neS, e_neB, e_ltI, e_chain, e_len, e_abs, e_2I, e_tuple1, e_tuple2, e_tuple3, e_listT, e_listN, e_allR, e_seqT, e_seqK, e_seqL, e_isi, e_isB, e_notB, e_truth, e_next, e_drop, e_ret, e_retN, e_ifS, e_set, e_asg, e_par, e_nm, e_gsN, e_gsC, e_gTpK, e_gTpL, e_sum, e_maxL, e_minL, e_maxDef, e_int, e_intB, e_aug, e_on3, e_par3, e_newK, e_getK, e_keyI, e_keyS, e_inK, e_ninK, e_putK, e_lenK, e_lstS, e_seqX, e_gTpT, e_oN, e_oS, e_sl, e_slT, e_slL, e_finT, e_finN, e_index, e_idxT, e_idxL, e_mIx, e_ixST, e_ixSL, e_mtL, e_w, e_w1, e_w2, e_wE, e_wZ, e_itK, e_itT, e_itL, e_itT2, e_itL2, e_lc, e_for, e_wipe0, e_wipe, e_okI, e_okR, e_gSb, List.getElem?_cons_zero, List.getElem?_cons_succ, List.set_cons_zero, List.set_cons_succ, intsD_ints, (pos_at mk).2, true_and]
      have e : ((pos ns (k : Int) : Nat) : Int) + 1 = ((pos ns (k : Int) + 1 : Nat) : Int) := by omega
      rw [e, cutN, ← List.map_drop]
      refine sort_ev rfl (by rw [List.length_drop]; omega) ?_
      exact q'
    · refine tuple_end ?_
      have e2 : (List.range ns.length).map (fun k : Nat => rowD (sortI (ns.drop (pos ns (k : Int) + 1)))) = (ordT ns).map rowD := by unfold ordT; rw [List.map_map]; rfl
      rw [e2]
      try simp only [e_var, e_C, e_op, e_neg, e_isN, e_notN, e_and, e_or, e_not, e_test, e_tAnd, e_tOr, e_tNot, e_tYes, e_if, e_aNil, e_aCons, e_tup, e_lst, e_lstN, e_len0, e_len1, e_len2, e_len3, e_len4, e_len5, e_cb, e_on1, e_on2, e_onI, e_onB, e_onO, e_onO0, e_onOO, e_I0, e_I, e_add, e_addT, e_addS, e_addL, e_addLR, e_addRL, e_addRR, e_mul, e_mulL, e_mulT, e_rev, e_revT, e_ix, e_eqI, e_eqS, e_eqB, e_neI, e_neS, e_neB, e_ltI, e_chain, e_len, e_abs, e_2I, e_tuple1, e_tuple2, e_tuple3, e_listT, e_listN, e_allR, e_seqT, e_seqK, e_seqL, e_isi, e_isB, e_notB, e_truth, e_next, e_drop, e_ret, e_retN, e_ifS, e_set, e_asg, e_par, e_nm, e_gsN, e_gsC, e_gTpK, e_gTpL, e_sum, e_maxL, e_minL, e_maxDef, e_int, e_intB, e_aug, e_on3, e_par3, e_newK, e_getK, e_keyI, e_keyS, e_inK, e_ninK, e_putK, e_lenK, e_lstS, e_seqX, e_gTpT, e_oN, e_oS, e_sl, e_slT, e_slL, e_finT, e_finN, e_index, e_idxT, e_idxL, e_mIx, e_ixST, e_ixSL, e_mtL, e_w, e_w1, e_w2, e_wE, e_wZ, e_itK, e_itT, e_itL, e_itT2, e_itL2, e_lc, e_for, e_wipe0, e_wipe, e_okI, e_okR, e_gSb, List.getElem?_cons_zero, List.getElem?_cons_succ, List.set_cons_zero, List.set_cons_succ]
      refine append_ref ownA (by rw [List.length_map]; omega) ?_
      rw [putA]
      refine hN _ _ (.inl ⟨dn ++ [ns], _, by rw [List.append_assoc]; exact e, rfl, by rw [List.map_append]; rfl⟩)
  · rintro r st' ⟨dn, x2, e, rfl, rfl⟩
    rw [List.append_nil] at e
    subst e
    try simp only [e_var, e_C, e_op, e_neg, e_isN, e_notN, e_and, e_or, e_not, e_test, e_tAnd, e_tOr, e_tNot, e_tYes, e_if, e_aNil, e_aCons, e_tup, e_lst, e_lstN, e_len0, e_len1, e_len2, e_len3, e_len4, e_len5, e_cb, e_on1, e_on2, e_onI, e_onB, e_onO, e_onO0, e_onOO, e_I0, e_I, e_add, e_addT, e_addS, e_addL, e_addLR, e_addRL, e_addRR, e_mul, e_mulL, e_mulT, e_rev, e_revT, e_ix, e_eqI, e_eqS, e_eqB, e_neI, e_neS, e_neB, e_ltI, e_chain, e_len, e_abs, e_2I, e_tuple1, e_tuple2, e_tuple3, e_listT, e_listN, e_allR, e_seqT, e_seqK, e_seqL, e_isi, e_isB, e_notB, e_truth, e_next, e_drop, e_ret, e_retN, e_ifS, e_set, e_asg, e_par, e_nm, e_gsN, e_gsC, e_gTpK, e_gTpL, e_sum, e_maxL, e_minL, e_maxDef, e_int, e_intB, e_aug, e_on3, e_par3, e_newK, e_getK, e_keyI, e_keyS, e_inK, e_ninK, e_putK, e_lenK, e_lstS, e_seqX, e_gTpT, e_oN, e_oS, e_sl, e_slT, e_slL, e_finT, e_finN, e_index, e_idxT, e_idxL, e_mIx, e_ixST, e_ixSL, e_mtL, e_w, e_w1, e_w2, e_wE, e_wZ, e_itK, e_itT, e_itL, e_itT2, e_itL2, e_lc, e_for, e_wipe0, e_wipe, e_okI, e_okR, e_gSb, List.getElem?_cons_zero, List.getElem?_cons_succ, List.set_cons_zero, List.set_cons_succ, seq_ref ownA]
    have ee : (dn.map fun ns => rowsD (ordT ns)) = (dn.map ordT).map rowsD := by rw [List.map_map]; rfl
    rw [ee]
    exact rt_drop rfl (by simp only [DL.clo]; exact clos_tabs _ _) (fun i o h => .inl h) q
end DL
namespace DL
open PySem PySem.Spec PyProof.Rows L2 LamX PySem.W SL
theorem dist_mod {n a : Nat} (i : Nat) : ML.dist n a (i % n) = ML.dist n a i := by unfold ML.dist; rw [Nat.mod_add_mod]
theorem isTk_iff {c : List Int} {s : Nat} (h : s < c.length) : isTk c s = true ↔ ML.tk (ML.cy c) (ML.cy (ML.flowsI c)) (s + (c.length - 1)) := by
  unfold isTk ML.tk
  rw [decide_eq_true_eq, show s + (c.length - 1) + 1 = s + c.length by omega, ML.cy_per, ML.cy_lt h]
structure More (c : List Int) (a L : Nat) : Prop where
  hc : Cnt c
  ha : a < c.length
  lt : ML.sumL c < c.length
  pas : ML.Passed c.length a L (ML.cy c) (ML.cy (ML.flowsI c))
def plus (c : List Int) (a : Nat) : List Int := c.set a (c.getD a 0 + 1)
theorem plus_length (c : List Int) (a : Nat) : (plus c a).length = c.length := by unfold plus; rw [List.length_set]
theorem plus_cnt {c : List Int} {a : Nat} (h : Cnt c) (ha : a < c.length) (lt : ML.sumL c < c.length) : Cnt (plus c a) := by
  refine ⟨fun z => ?_, by rw [plus_length]; exact h.few, fun x hx => ?_, ?_⟩
  · have := plus_length c a
    rw [z] at this
    exact h.ne (List.length_eq_zero_iff.mp this.symm)
  · unfold plus at hx
    rcases List.mem_or_eq_of_mem_set hx with w | w
    · exact h.nn x w
    · have := h.nn _ (getD_mem ha)
      omega
  · rw [plus_length]
    unfold plus
    rw [sum_set ha]
    omega
theorem plus_cy {c : List Int} {a : Nat} (ha : a < c.length) (i : Nat) : ML.cy (plus c a) i = ML.addC c.length a (ML.cy c) i := by
  have n0 : 0 < c.length := by omega
  unfold ML.addC
  have lm := Nat.mod_lt i n0
  have dz : ML.dist c.length a i = 0 ↔ i % c.length = a := by rw [← dist_mod i]; exact ML.dist_zero ha lm
  unfold ML.cy
  rw [plus_length]
  unfold plus
  by_cases e : i % c.length = a
  · rw [if_pos (dz.mpr e), e, List.getD_eq_getElem?_getD, List.getElem?_set_self ha]
    rfl
  · rw [if_neg (fun z => e (dz.mp z)), List.getD_eq_getElem?_getD, List.getElem?_set_ne (fun z => e z.symm), ← List.getD_eq_getElem?_getD]
    omega
def addL (F : List Int) (a t : Nat) : List Int := (List.range F.length).map fun s => F.getD s 0 + if ML.dist F.length a s < t then 1 else 0
theorem addL_length (F : List Int) (a t : Nat) : (addL F a t).length = F.length := by unfold addL; rw [List.length_map, List.length_range]
theorem addL_at {F : List Int} {a t s : Nat} (h : s < F.length) : (addL F a t).getD s 0 = F.getD s 0 + if ML.dist F.length a s < t then 1 else 0 := by
  unfold addL
  rw [List.getD_eq_getElem?_getD, List.getElem?_map, List.getElem?_eq_getElem (by rw [List.length_range]; exact h), List.getElem_range]
  rfl
theorem getD_ext {xs ys : List Int} (l : xs.length = ys.length) (h : ∀ i, i < xs.length → xs.getD i 0 = ys.getD i 0) : xs = ys := by
  refine List.ext_getElem l fun i h1 h2 => ?_
  have e := h i h1
  rw [List.getD_eq_getElem?_getD, List.getElem?_eq_getElem h1, List.getD_eq_getElem?_getD, List.getElem?_eq_getElem h2] at e
  simpa using e
theorem More.flows {c : List Int} {a L : Nat} (m : More c a L) : ML.flowsI (plus c a) = addL (ML.flowsI c) a L := by
  have n0 : 0 < c.length := m.hc.pos
  have lf := ML.flowsI_length c
  have cn := plus_cnt m.hc m.ha m.lt
  have c0 : ∀ i, 0 ≤ ML.cy c i := fun i => m.hc.nn _ (getD_mem (Nat.mod_lt _ n0))
  have F1 := m.hc.flow.more c0 m.pas
  have F2 := cn.flow
  rw [plus_length] at F2
  have F2' : ML.Flow c.length (ML.addC c.length a (ML.cy c)) (ML.cy (ML.flowsI (plus c a))) := ⟨F2.per, F2.nn, fun i => by rw [F2.rec_, plus_cy m.ha], F2.zero⟩
  refine getD_ext (by rw [ML.flowsI_length, plus_length, addL_length, lf]) fun i hi => ?_
  rw [ML.flowsI_length, plus_length] at hi
  have e := F2'.one F1 n0 i
  rw [ML.cy_lt (by rw [ML.flowsI_length, plus_length]; exact hi)] at e
  rw [e, addL_at (by rw [lf]; exact hi), lf]
  unfold ML.addF
  rw [ML.cy_lt (by rw [lf]; exact hi)]
theorem More.tk {c : List Int} {a L : Nat} (m : More c a L) {s : Nat} (h : s < c.length) : isTk (plus c a) s = true ↔ isTk c s = true ∨ s = (a + L) % c.length := by
  have n0 : 0 < c.length := m.hc.pos
  have c0 : ∀ i, 0 ≤ ML.cy c i := fun i => m.hc.nn _ (getD_mem (Nat.mod_lt _ n0))
  have z := ML.tk_more m.hc.flow c0 m.pas (s + (c.length - 1))
  rw [isTk_iff (by rw [plus_length]; exact h), isTk_iff h, plus_length]
  have e1 : ML.tk (ML.cy (plus c a)) (ML.cy (ML.flowsI (plus c a))) (s + (c.length - 1)) ↔ ML.tk (ML.addC c.length a (ML.cy c)) (ML.addF c.length a L (ML.cy (ML.flowsI c))) (s + (c.length - 1)) := by
    unfold ML.tk
    rw [plus_cy m.ha]
    have cn := plus_cnt m.hc m.ha m.lt
    have F2 := cn.flow
    rw [plus_length] at F2
    have F2' : ML.Flow c.length (ML.addC c.length a (ML.cy c)) (ML.cy (ML.flowsI (plus c a))) := ⟨F2.per, F2.nn, fun i => by rw [F2.rec_, plus_cy m.ha], F2.zero⟩
    rw [F2'.one (m.hc.flow.more c0 m.pas) n0]
  rw [e1, z, show s + (c.length - 1) + 1 = s + c.length by omega, ML.dist_per, ML.dist_eq m.ha h m.pas.lt]
theorem More.yes {c : List Int} {a L t : Nat} (m : More c a L) (h : t < L) : isTk c ((a + t) % c.length) = true := by
  have n0 : 0 < c.length := m.hc.pos
  have lm := Nat.mod_lt (a + t) n0
  rw [isTk_iff lm]
  refine m.pas.yes _ ?_
  have ll := m.pas.lt
  rw [show (a + t) % c.length + (c.length - 1) + 1 = (a + t) % c.length + c.length by omega, ML.dist_per, (ML.dist_eq m.ha lm (by omega)).mpr rfl]
  exact h
theorem More.no {c : List Int} {a L : Nat} (m : More c a L) : isTk c ((a + L) % c.length) = false := by
  have n0 : 0 < c.length := m.hc.pos
  have lm := Nat.mod_lt (a + L) n0
  have z : ¬ isTk c ((a + L) % c.length) = true := by
    rw [isTk_iff lm]
    refine m.pas.no _ ?_
    rw [show (a + L) % c.length + (c.length - 1) + 1 = (a + L) % c.length + c.length by omega, ML.dist_per, (ML.dist_eq m.ha lm m.pas.lt).mpr rfl]
  cases h : isTk c ((a + L) % c.length) with
  | true => exact absurd h z
  | false => rfl
structure Full (c : List Int) (kvs : List (Key × D)) : Prop where
  ex : ∃ ks : List Int, kvs.map (·.1) = ks.map Sum.inl ∧ ks.Nodup ∧ ∀ x, x ∈ ks ↔ x ∈ takenI c
theorem takenI_mem {c : List Int} {x : Int} : x ∈ takenI c ↔ ∃ s : Nat, x = s ∧ s < c.length ∧ isTk c s = true := by
  unfold takenI
  rw [List.mem_map]
  constructor
  · rintro ⟨s, hs, rfl⟩
    obtain ⟨h1, h2⟩ := List.mem_filter.mp hs
    exact ⟨s, rfl, List.mem_range.mp h1, h2⟩
  · rintro ⟨s, rfl, h1, h2⟩
    exact ⟨s, List.mem_filter.mpr ⟨List.mem_range.mpr h1, h2⟩, rfl⟩
theorem takenI_at {c : List Int} {s : Nat} (h : s < c.length) : (s : Int) ∈ takenI c ↔ isTk c s = true := by
  rw [takenI_mem]
  constructor
  · rintro ⟨k, e, _, h2⟩
    have : s = k := by omega
    subst this
    exact h2
  · exact fun h2 => ⟨s, rfl, h, h2⟩
theorem valD_some {κ : Type} [DecidableEq κ] {kvs : List (κ × D)} {k : κ} : (valD kvs k).isSome = true ↔ k ∈ kvs.map (·.1) := by
  unfold valD
  rw [Option.isSome_map, List.find?_isSome]
  constructor
  · rintro ⟨p, hp, e⟩
    exact List.mem_map.mpr ⟨p, hp, of_decide_eq_true e⟩
  · intro h
    obtain ⟨p, hp, e⟩ := List.mem_map.mp h
    exact ⟨p, hp, decide_eq_true e⟩
theorem Full.at_ {c : List Int} {kvs : List (Key × D)} (f : Full c kvs) {s : Nat} (h : s < c.length) : (valD kvs (.inl (s : Int))).isSome = isTk c s := by
  obtain ⟨ks, e, nd, m⟩ := f.ex
  rw [Bool.eq_iff_iff, valD_some, e]
  rw [← takenI_at h, ← m]
  constructor
  · intro z
    obtain ⟨x, hx, e⟩ := List.mem_map.mp z
    cases e
    exact hx
  · exact fun z => List.mem_map.mpr ⟨_, z, rfl⟩
theorem putD_new {κ : Type} [DecidableEq κ] {kvs : List (κ × D)} {k : κ} {v : D} (h : (valD kvs k).isSome = false) : putD kvs k v = kvs ++ [(k, v)] := by
  unfold putD
  rw [if_neg]
  intro z
  obtain ⟨p, hp, e⟩ := List.any_eq_true.mp z
  have := valD_some.mpr (List.mem_map.mpr ⟨p, hp, of_decide_eq_true e⟩)
  rw [h] at this
  cases this
theorem Full.more {c : List Int} {a L : Nat} {kvs : List (Key × D)} {v : D} (f : Full c kvs) (m : More c a L) : Full (plus c a) (putD kvs (.inl (((a + L) % c.length : Nat) : Int)) v) := by
  have n0 : 0 < c.length := m.hc.pos
  have lm := Nat.mod_lt (a + L) n0
  have no := m.no
  rw [putD_new (by rw [f.at_ lm]; exact no)]
  obtain ⟨ks, e, nd, mm⟩ := f.ex
  have ni : (((a + L) % c.length : Nat) : Int) ∉ ks := fun z => by
    have := (takenI_at lm).mp ((mm _).mp z)
    rw [no] at this
    cases this
  refine ⟨ks ++ [(((a + L) % c.length : Nat) : Int)], by rw [List.map_append, List.map_append, e]; rfl, ?_, fun x => ?_⟩
  · rw [List.nodup_append]
    refine ⟨nd, by simp, fun y hy z hz => ?_⟩
    rw [List.mem_singleton.mp hz]
    exact fun w => ni (w ▸ hy)
  · rw [List.mem_append, List.mem_singleton, mm, takenI_mem, takenI_mem, plus_length]
    constructor
    · rintro (⟨s, rfl, h1, h2⟩ | rfl)
      · exact ⟨s, rfl, h1, (m.tk h1).mpr (.inl h2)⟩
      · exact ⟨_, rfl, lm, (m.tk lm).mpr (.inr rfl)⟩
    · rintro ⟨s, rfl, h1, h2⟩
      rcases (m.tk h1).mp h2 with z | z
      · exact .inl ⟨s, rfl, h1, z⟩
      · rw [z]; exact .inr rfl
structure Upto (c : List Int) (i j : Nat) (cc : List Int) : Prop where
  len : cc.length = c.length
  at_ : ∀ s, s < c.length → cc.getD s 0 = if s < i then c.getD s 0 else if s = i then (j : Int) else 0
theorem Upto.next {c cc : List Int} {i : Nat} (h : Upto c i (c.getD i 0).toNat cc) (nn : ∀ x ∈ c, 0 ≤ x) (hi : i < c.length) : Upto c (i + 1) 0 cc := by
  refine ⟨h.len, fun s hs => ?_⟩
  rw [h.at_ s hs]
  have z := nn _ (getD_mem hi)
  rcases Nat.lt_trichotomy s i with q | q | q
  · rw [if_pos q, if_pos (by omega)]
  · subst q
    rw [if_neg (Nat.lt_irrefl _), if_pos rfl, if_pos (by omega), Int.toNat_of_nonneg z]
  · rw [if_neg (by omega), if_neg (by omega), if_neg (by omega)]
    split <;> rfl
theorem Upto.plus {c cc : List Int} {i j : Nat} (h : Upto c i j cc) (hi : i < c.length) : Upto c i (j + 1) (plus cc i) := by
  have li : i < cc.length := by rw [h.len]; exact hi
  refine ⟨by rw [plus_length, h.len], fun s hs => ?_⟩
  unfold DL.plus
  by_cases e : s = i
  · subst e
    rw [List.getD_eq_getElem?_getD, List.getElem?_set_self li, if_neg (Nat.lt_irrefl _), if_pos rfl]
    show cc.getD s 0 + 1 = _
    rw [h.at_ s hs, if_neg (Nat.lt_irrefl _), if_pos rfl]
    omega
  · rw [List.getD_eq_getElem?_getD, List.getElem?_set_ne (fun z => e z.symm), ← List.getD_eq_getElem?_getD, h.at_ s hs, if_neg e, if_neg e]
theorem Upto.le {c cc : List Int} {i j : Nat} (h : Upto c i j cc) (nn : ∀ x ∈ c, 0 ≤ x) (hj : i < c.length → (j : Int) ≤ c.getD i 0) : ML.sumL cc ≤ ML.sumL c := by
  rw [ML.sumL_N, ML.sumL_N, h.len]
  refine ML.sumN_le fun s hs => ?_
  rw [h.at_ s hs]
  split
  · exact Int.le_refl _
  · split
    · rename_i e; subst e; exact hj hs
    · exact nn _ (getD_mem hs)
theorem Upto.lt {c cc : List Int} {i j : Nat} (h : Upto c i j cc) (nn : ∀ x ∈ c, 0 ≤ x) (hi : i < c.length) (hj : (j : Int) < c.getD i 0) : ML.sumL cc < ML.sumL c := by
  have z := (h.plus hi).le nn fun _ => by omega
  unfold DL.plus at z
  rw [sum_set (by rw [h.len]; exact hi)] at z
  omega
theorem Upto.nn {c cc : List Int} {i j : Nat} (h : Upto c i j cc) (nn : ∀ x ∈ c, 0 ≤ x) : ∀ x ∈ cc, 0 ≤ x := by
  intro x hx
  obtain ⟨s, hs⟩ := List.mem_iff_getElem?.mp hx
  have ls := (List.getElem?_eq_some_iff.mp hs).1
  rw [h.len] at ls
  have e := h.at_ s ls
  rw [List.getD_eq_getElem?_getD, hs] at e
  have e' : x = _ := e
  rw [e']
  split
  · exact nn _ (getD_mem ls)
  · split <;> omega
theorem Upto.cnt {c cc : List Int} {i j : Nat} (h : Upto c i j cc) (hc : Cnt c) (hj : i < c.length → (j : Int) ≤ c.getD i 0) : Cnt cc := by
  refine ⟨fun z => ?_, by rw [h.len]; exact hc.few, h.nn hc.nn, ?_⟩
  · have := h.len
    rw [z] at this
    exact hc.ne (List.length_eq_zero_iff.mp this.symm)
  · rw [h.len]
    exact Int.le_trans (h.le hc.nn hj) hc.room
theorem Upto.all {c cc : List Int} {j : Nat} (h : Upto c c.length j cc) : cc = c := getD_ext h.len fun s hs => by
  rw [h.len] at hs
  rw [h.at_ s hs, if_pos hs]
theorem enum_drop {xs : List Int} {i : Nat} {d : D} {ds : List D} (h : d :: ds = (enumD (xs.map D.int)).drop i) : i < xs.length ∧ d = .tuk [.int (i : Nat), .int (xs.getD i 0)] ∧ ds = (enumD (xs.map D.int)).drop (i + 1) := by
  obtain ⟨e, lt, e2⟩ := drop_cons h.symm
  obtain ⟨x, ex, rfl⟩ := enumD_get e
  rw [List.getElem?_map] at ex
  obtain ⟨y, ey, rfl⟩ := Option.map_eq_some_iff.mp ex
  refine ⟨(List.getElem?_eq_some_iff.mp ey).1, ?_, e2.symm⟩
  rw [List.getD_eq_getElem?_getD, ey]
  rfl
theorem enum_end {xs : List Int} {i : Nat} (h : [] = (enumD (xs.map D.int)).drop i) : xs.length ≤ i := by
  have := List.drop_eq_nil_iff.mp h.symm
  rw [enumD_length, List.length_map] at this
  exact this
end DL
namespace DL
open PySem PySem.Spec PyProof.Rows L2 LamX PySem.W SL
end DL
namespace ML
theorem Flow.bound {n : Nat} {c f : Nat → Int} (F : Flow n c f) (c0 : ∀ i, 0 ≤ c i) (cp : ∀ i, c (i + n) = c i) (n0 : 0 < n) (i : Nat) : f i ≤ sumN n c := by
  obtain ⟨z, hz⟩ := F.zero
  have up : ∀ k, f (z + k) ≤ sumN k (fun j => c (j + (z + 1))) := by
    intro k
    induction k with
    | zero => show f z ≤ 0; omega
    | succ k ih =>
      show f (z + (k + 1)) ≤ sumN k (fun j => c (j + (z + 1))) + c (k + (z + 1))
      have e := F.rec_ (z + k)
      have c1 := c0 (z + k + 1)
      have f1 := F.nn (z + k)
      rw [show z + (k + 1) = z + k + 1 by omega, e, show k + (z + 1) = z + k + 1 by omega]
      unfold step
      split <;> omega
  have mono : ∀ b a, a ≤ b → sumN a (fun j => c (j + (z + 1))) ≤ sumN b (fun j => c (j + (z + 1))) := by
    intro b
    induction b with
    | zero => intro a h; rw [Nat.le_zero.mp h]; exact Int.le_refl _
    | succ b ih =>
      intro a h
      rcases Nat.lt_or_ge a (b + 1) with q | q
      · have h1 := ih a (by omega)
        have h2 := c0 (b + (z + 1))
        show _ ≤ sumN b (fun j => c (j + (z + 1))) + c (b + (z + 1))
        omega
      · rw [show a = b + 1 by omega]; exact Int.le_refl _
  have e : i + n * (z + 1) = z + (i + n * (z + 1) - z) := by
    have : z + 1 ≤ n * (z + 1) := Nat.le_mul_of_pos_left _ n0
    omega
  -- the rest below n
  have key : ∀ k, f (z + k % n) = f (z + k) := fun k => by
    have := per_mul F.per (z + k % n) (k / n)
    rw [Nat.add_assoc, Nat.mod_add_div] at this
    exact this.symm
  rw [← per_mul F.per i (z + 1), e, ← key]
  refine Int.le_trans (up _) (Int.le_trans (mono n _ (Nat.le_of_lt (Nat.mod_lt _ n0))) ?_)
  rw [sumN_shifts cp]
  exact Int.le_refl _
end ML
namespace DL
open PySem PySem.Spec PyProof.Rows L2 LamX PySem.W SL
theorem Cnt.c0 {c : List Int} (h : Cnt c) (i : Nat) : 0 ≤ ML.cy c i := h.nn _ (getD_mem (Nat.mod_lt _ h.pos))
theorem Cnt.fl {c : List Int} (h : Cnt c) : ∀ x ∈ ML.flowsI c, 0 ≤ x ∧ x ≤ c.length := by
  intro x hx
  obtain ⟨i, hi⟩ := List.mem_iff_getElem?.mp hx
  have li := (List.getElem?_eq_some_iff.mp hi).1
  have e : ML.cy (ML.flowsI c) i = x := by rw [ML.cy_lt li, List.getD_eq_getElem?_getD, hi]; rfl
  have b := h.flow.bound h.c0 (ML.cy_per c) h.pos i
  have n := h.flow.nn i
  rw [e] at b n
  rw [← ML.sumL_cy] at b
  have := h.room
  omega
theorem Cnt.sm {c : List Int} (h : Cnt c) (l : c.length ≤ 64) : Sm 1 1411 (rowD c) :=
  sm_row (m := 64) (fun x hx => by have := h.nn x hx; have := h.le hx; omega) l
theorem Cnt.step {c : List Int} (h : Cnt c) {i : Nat} (hi : i < c.length) : (ML.flowsI c).getD i 0 = ML.step (ML.cy (ML.flowsI c) (i + (c.length - 1))) (c.getD i 0) := by
  have z := h.flow.rec_ (i + (c.length - 1))
  rw [show i + (c.length - 1) + 1 = i + c.length by omega, h.flow.per, ML.cy_per, ML.cy_lt hi, ML.cy_lt (by rw [ML.flowsI_length]; exact hi)] at z
  exact z
end DL
namespace DL
open PySem PySem.Spec PyProof.Rows L2 LamX PySem.W SL
theorem takenI_asc (c : List Int) : (takenI c).Pairwise (· < ·) := by
  unfold takenI
  refine List.Pairwise.map _ (fun a b h => ?_) (List.Pairwise.filter _ List.pairwise_lt_range)
  omega
theorem sorted_lt_le {xs : List Int} (h : xs.Pairwise (· < ·)) : xs.Pairwise (· ≤ ·) := h.imp fun h => Int.le_of_lt h
theorem Full.sorted {c : List Int} {kvs : List (Key × D)} (f : Full c kvs) : ∃ ks : List Int, kvs.map (·.1) = ks.map Sum.inl ∧ ∀ out : List Int, out.Perm ks → out.Pairwise (· ≤ ·) → out = takenI c := by
  obtain ⟨ks, e, nd, m⟩ := f.ex
  refine ⟨ks, e, fun out p so => sorted_one (p.trans ?_) so (sorted_lt_le (takenI_asc c))⟩
  exact (List.perm_ext_iff_of_nodup nd (asc_nodup (takenI_asc c))).mpr m
theorem sum_addL {F : List Int} {a L : Nat} (ha : a < F.length) (hL : L ≤ F.length) : ML.sumL (addL F a L) = ML.sumL F + L := by
  rw [ML.sumL_N, addL_length, ML.sumL_N]
  have e : ML.sumN F.length (fun i => (addL F a L).getD i 0) = ML.sumN F.length (ML.addF F.length a L fun i => F.getD i 0) := ML.sumN_congr fun i h => by rw [addL_at h]; rfl
  rw [e, ML.sum_addF ha hL]
theorem More.sum {c : List Int} {a L : Nat} (m : More c a L) : ML.sumL (ML.flowsI (plus c a)) = ML.sumL (ML.flowsI c) + L := by
  have lF := ML.flowsI_length c
  rw [m.flows, sum_addL (by rw [lF]; exact m.ha) (by rw [lF]; exact Nat.le_of_lt m.pas.lt)]
end DL
namespace DL
open PySem PySem.Spec PyProof.Rows L2 LamX PySem.W SL
theorem cutT (xs : List D) (k : Nat) : cutD xs none (some (k : Int)) = xs.take k := by
  unfold cutD
  have z : HT.sIx xs.length xs.length (some (k : Int)) = min k xs.length := HT.sIx_nat xs.length xs.length k
  rw [z, HT.sIx_none, List.drop_zero, Nat.sub_zero]
  by_cases h : k ≤ xs.length
  · rw [Nat.min_eq_left h]
  · rw [Nat.min_eq_right (by omega), List.take_length, List.take_of_length_le (by omega)]
end DL
namespace DL
open PySem PySem.Spec PyProof.Rows L2 LamX PySem.W SL
end DL
namespace DL
open PySem PySem.Spec PyProof.Rows L2 LamX PySem.W SL
theorem sumL_range (m : Nat) (g : Nat → Int) : ML.sumL ((List.range m).map g) = ML.sumN m g := by
  induction m with
  | zero => rfl
  | succ m ih =>
    rw [List.range_succ, List.map_append, ML.sumL_append, ih]
    show _ + (g m + 0) = _ + g m
    omega
theorem sumL_flat {α : Type} (l : List α) (f : α → List Int) : ML.sumL (l.flatMap f) = ML.sumL (l.map fun x => ML.sumL (f x)) := by
  induction l with
  | nil => rfl
  | cons x r ih =>
    rw [List.flatMap_cons, ML.sumL_append, ih]
    rfl
theorem sumN_more {m m' : Nat} {g h : Nat → Int} (le : m ≤ m') (gh : ∀ i, i < m → g i ≤ h i) (h0 : ∀ i, 0 ≤ h i) : ML.sumN m g ≤ ML.sumN m' h := by
  induction m' with
  | zero => rw [Nat.le_zero.mp le]; exact Int.le_refl _
  | succ k ih =>
    show ML.sumN m g ≤ ML.sumN k h + h k
    rcases Nat.lt_or_ge m (k + 1) with q | q
    · have := ih (by omega)
      have := h0 k
      omega
    · have e : m = k + 1 := by omega
      subst e
      show ML.sumN k g + g k ≤ _
      have := ML.sumN_le (n := k) fun i hi => gh i (by omega)
      have := gh k (by omega)
      omega
theorem sqSum_waits (c : List Int) : sqSum (waitsI c) = ML.sumN c.length fun s => ML.sumN (c.getD s 0).toNat fun k => (ML.cy (ML.flowsI c) (s + (c.length - 1)) + (k : Int)) * (ML.cy (ML.flowsI c) (s + (c.length - 1)) + (k : Int)) := by
  unfold sqSum waitsI
  rw [List.map_flatMap, sumL_flat, sumL_range]
  refine ML.sumN_congr fun s _ => ?_
  rw [List.map_map, ← sumL_range]
  rfl
theorem sq_mono {a b : Int} (h0 : 0 ≤ a) (h : a ≤ b) : a * a ≤ b * b := Int.mul_le_mul h h h0 (Int.le_trans h0 h)
theorem More.flow_le {c : List Int} {a L : Nat} (m : More c a L) (i : Nat) : ML.cy (ML.flowsI c) i ≤ ML.cy (ML.flowsI (plus c a)) i := by
  have lF := ML.flowsI_length c
  have n0 := m.hc.pos
  unfold ML.cy
  rw [m.flows, addL_length, lF]
  have lm := Nat.mod_lt i n0
  rw [addL_at (by rw [lF]; exact lm)]
  split <;> omega
theorem plus_ge {c : List Int} {a : Nat} (ha : a < c.length) {s : Nat} (hs : s < c.length) : c.getD s 0 ≤ (plus c a).getD s 0 := by
  unfold plus
  by_cases e : s = a
  · subst e
    rw [List.getD_eq_getElem?_getD (l := c.set s _), List.getElem?_set_self hs]
    show _ ≤ c.getD s 0 + 1
    omega
  · rw [List.getD_eq_getElem?_getD (l := c.set a _), List.getElem?_set_ne (fun z => e z.symm), ← List.getD_eq_getElem?_getD]
    exact Int.le_refl _
theorem More.sq {c : List Int} {a L : Nat} (m : More c a L) : sqSum (waitsI c) ≤ sqSum (waitsI (plus c a)) := by
  rw [sqSum_waits, sqSum_waits, plus_length]
  refine ML.sumN_le fun s hs => ?_
  have pg := plus_ge m.ha hs
  refine sumN_more (by omega) (fun k _ => sq_mono ?_ ?_) fun k => ?_
  · have := m.hc.flow.nn (s + (c.length - 1)); omega
  · have := m.flow_le (s + (c.length - 1)); omega
  · have f0 := (plus_cnt m.hc m.ha m.lt).flow.nn (s + (c.length - 1))
    exact Int.mul_nonneg (by omega) (by omega)
theorem sort_app {xs : List Int} {x : Int} (h1 : xs.Pairwise (· < ·)) (h2 : ∀ y ∈ xs, y ≠ x) {ys : List Int} (h3 : ys.Pairwise (· < ·)) (h4 : ∀ y, y ∈ ys ↔ y ∈ xs ∨ y = x) : sortI (xs ++ [x]) = ys := by
  refine asc_one (sort_asc ?_) h3 fun y => ?_
  · rw [List.nodup_append]
    refine ⟨asc_nodup h1, by simp, fun a ha b hb => ?_⟩
    rw [List.mem_singleton.mp hb]
    exact h2 a ha
  · rw [(sortI_perm _).mem_iff, List.mem_append, List.mem_singleton, h4]
theorem More.taken {c : List Int} {a L : Nat} (m : More c a L) : sortI (takenI c ++ [(((a + L) % c.length : Nat) : Int)]) = takenI (plus c a) := by
  have lm := Nat.mod_lt (a + L) m.hc.pos
  refine sort_app (takenI_asc c) (fun y hy z => ?_) (takenI_asc _) fun y => ?_
  · rw [z] at hy
    have := (takenI_at lm).mp hy
    rw [m.no] at this
    cases this
  · rw [takenI_mem, takenI_mem, plus_length]
    constructor
    · rintro ⟨s, rfl, h1, h2⟩
      rcases (m.tk h1).mp h2 with z | z
      · exact .inl ⟨s, rfl, h1, z⟩
      · rw [z]; exact .inr rfl
    · rintro (⟨s, rfl, h1, h2⟩ | rfl)
      · exact ⟨s, rfl, h1, (m.tk h1).mpr (.inl h2)⟩
      · exact ⟨_, rfl, lm, (m.tk lm).mpr (.inr rfl)⟩
end DL
namespace DL
open PySem PySem.Spec PyProof.Rows L2 LamX PySem.W SL
def Dn (a b x y : Nat) : Prop := x < y ∧ (x < a ∨ (x = a ∧ y < b))
structure Half (m a b : Nat) (rs : List (List Int)) : Prop where
  len : rs.length = m
  nd : ∀ x, x < m → (rs.getD x []).Nodup
  inr : ∀ x, x < m → ∀ z ∈ rs.getD x [], ∃ y : Nat, y < m ∧ z = (y : Int) ∧ (Dn a b x y ∨ Dn a b y x)
  one : ∀ x y, x < m → y < m → Dn a b x y → ((y : Int) ∈ rs.getD x [] ↔ ¬ (x : Int) ∈ rs.getD y [])
theorem Half.congr {m a b c d : Nat} {rs : List (List Int)} (h : Half m a b rs) (e : ∀ x y, x < m → y < m → (Dn a b x y ↔ Dn c d x y)) : Half m c d rs :=
  ⟨h.len, h.nd, fun x hx z hz => by
    obtain ⟨y, hy, ez, q⟩ := h.inr x hx z hz
    exact ⟨y, hy, ez, q.imp (e x y hx hy).mp (e y x hy hx).mp⟩, fun x y hx hy q => h.one x y hx hy ((e x y hx hy).mpr q)⟩
theorem Half.start (m : Nat) : Half m 0 0 (List.replicate m []) := by
  have z : ∀ x, (List.replicate m ([] : List Int)).getD x [] = [] := fun x => by
    rw [List.getD_eq_getElem?_getD, List.getElem?_replicate]
    split <;> rfl
  refine ⟨by simp, fun x hx => by rw [z]; exact List.nodup_nil, fun x hx y hy => ?_, fun x y hx hy q => ?_⟩
  · rw [z] at hy
    cases hy
  · unfold Dn at q
    omega
theorem mem_setD {rs : List (List Int)} {u x : Nat} {v z : Int} (h : u < rs.length) : z ∈ (rs.set u (rs.getD u [] ++ [v])).getD x [] ↔ z ∈ rs.getD x [] ∨ (x = u ∧ z = v) := by
  by_cases e : x = u
  · subst e
    rw [List.getD_eq_getElem?_getD (l := rs.set _ _), List.getElem?_set_self h]
    show z ∈ rs.getD x [] ++ [v] ↔ _
    rw [List.mem_append, List.mem_singleton]
    simp
  · rw [List.getD_eq_getElem?_getD (l := rs.set _ _), List.getElem?_set_ne (fun w => e w.symm), ← List.getD_eq_getElem?_getD]
    simp [e]
theorem Half.step {m a b u v : Nat} {rs : List (List Int)} (h : Half m a b rs) (ab : a < b) (hb : b < m) (uv : (u = a ∧ v = b) ∨ (u = b ∧ v = a)) : Half m a (b + 1) (rs.set u (rs.getD u [] ++ [(v : Int)])) := by
  have hu : u < rs.length := by rw [h.len]; omega
  have nv : ¬ (v : Int) ∈ rs.getD u [] := fun z => by
    obtain ⟨y, hy, ez, q⟩ := h.inr u (by omega) _ z
    unfold Dn at q
    omega
  have nu : ¬ (u : Int) ∈ rs.getD v [] := fun z => by
    obtain ⟨y, hy, ez, q⟩ := h.inr v (by omega) _ z
    unfold Dn at q
    omega
  refine ⟨by rw [List.length_set]; exact h.len, fun x hx => ?_, fun x hx z hz => ?_, fun x y hx hy q => ?_⟩
  · by_cases e : x = u
    · subst e
      rw [List.getD_eq_getElem?_getD (l := rs.set _ _), List.getElem?_set_self hu]
      show (rs.getD x [] ++ [(v : Int)]).Nodup
      rw [List.nodup_append]
      refine ⟨h.nd x hx, by simp, fun a ha b hb => ?_⟩
      rw [List.mem_singleton.mp hb]
      rintro rfl
      exact nv ha
    · rw [List.getD_eq_getElem?_getD (l := rs.set _ _), List.getElem?_set_ne (fun w => e w.symm), ← List.getD_eq_getElem?_getD]
      exact h.nd x hx
  · rcases (mem_setD hu).mp hz with q | ⟨e1, e2⟩
    · obtain ⟨y, hy, ez, q⟩ := h.inr x hx z q
      refine ⟨y, hy, ez, ?_⟩
      unfold Dn at q ⊢
      omega
    · refine ⟨v, by omega, e2, ?_⟩
      unfold Dn
      omega
  · rw [mem_setD hu, mem_setD hu]
    by_cases e : x = a ∧ y = b
    · obtain ⟨rfl, rfl⟩ := e
      rcases uv with ⟨rfl, rfl⟩ | ⟨rfl, rfl⟩
      · constructor
        · rintro _ (z | ⟨z, _⟩)
          · exact nu z
          · omega
        · exact fun _ => .inr ⟨rfl, rfl⟩
      · constructor
        · rintro (z | ⟨z, _⟩) _
          · exact nu z
          · omega
        · exact fun z => absurd (.inr ⟨rfl, rfl⟩) z
    · have q' : Dn a b x y := by unfold Dn at q ⊢; omega
      have z := h.one x y hx hy q'
      have w1 : ¬ (x = u ∧ (y : Int) = (v : Int)) := fun w => by unfold Dn at q'; omega
      have w2 : ¬ (y = u ∧ (x : Int) = (v : Int)) := fun w => by unfold Dn at q'; omega
      simp only [w1, w2, or_false]
      exact z
theorem Half.tb {m : Nat} {rs : List (List Int)} (h : Half m m m rs) : Tb m (rs.map sortI) := by
  have g : ∀ x, x < m → (rs.map sortI).getD x [] = sortI (rs.getD x []) := fun x hx => by
    rw [List.getD_eq_getElem?_getD, List.getElem?_map, List.getD_eq_getElem?_getD, List.getElem?_eq_getElem (by rw [h.len]; exact hx)]
    rfl
  have mm : ∀ x, x < m → ∀ z, z ∈ (rs.map sortI).getD x [] ↔ z ∈ rs.getD x [] := fun x hx z => by rw [g x hx, (sortI_perm _).mem_iff]
  refine ⟨by rw [List.length_map]; exact h.len, fun x hx => ?_, fun x hx z hz => ?_, fun x y hx hy => ?_⟩
  · rw [g x hx]
    exact sort_asc (h.nd x hx)
  · obtain ⟨y, hy, ez, _⟩ := h.inr x hx z ((mm x hx z).mp hz)
    omega
  · unfold dec
    by_cases e : x = y
    · rw [if_pos e]
      have z : ¬ (x : Int) ∈ (rs.map sortI).getD x [] := fun q => by
        obtain ⟨y, hy, ez, q⟩ := h.inr x hx _ ((mm x hx _).mp q)
        unfold Dn at q
        omega
      rw [decide_eq_false z]
      rfl
    · rw [if_neg e]
      simp only [mm x hx, mm y hy]
      have z : ((y : Int) ∈ rs.getD x [] ↔ ¬ (x : Int) ∈ rs.getD y []) := by
        rcases Nat.lt_or_gt_of_ne e with q | q
        · exact h.one x y hx hy ⟨q, .inl hx⟩
        · have := h.one y x hy hx ⟨q, .inl hy⟩
          constructor
          · exact fun a b => this.mp b a
          · exact fun a => Classical.byContradiction fun b => a (this.mpr b)
      by_cases q : (x : Int) ∈ rs.getD y []
      · rw [decide_eq_true q, decide_eq_false fun w => z.mp w q]; rfl
      · rw [decide_eq_false q, decide_eq_true (z.mpr q)]; rfl
theorem fin_lst {Q : DK} {acc : List D} {st : DSt} (q : Q (.lst acc) st) : finT Q acc st := q
end DL
namespace DL
open PySem PySem.Spec PyProof.Rows L2 LamX PySem.W SL
theorem sem_pickA (ds : List D) (st : DSt) (Q : DK) (h : g_pick ds st Q) : F__law_of g_take { nx := fun _ st' => Rt st Q .non st', rt := Rt st Q } (startD 2 ds) st := by
  have z := sem_pick ds st Q h
  unfold F__law_pick at z
  unfold F__law_of
  exact z
theorem Hist.left {m n : Nat} {a b : List Nat} (h : Hist m n (a ++ b)) : Hist m n a := by
  have nd := h.nd
  have fw := h.few
  rw [List.nodup_append] at nd
  rw [List.length_append] at fw
  exact ⟨nd.1, fun k hk => h.lt k (List.mem_append_left _ hk), by omega⟩
theorem hist_go {m n : Nat} {P : List (List Int)} {R : List (List (List Int))} (S : Setg m n P R) {dn left : List Nat} {a : Nat} (H : Hist m n (dn ++ a :: left)) : Go m n P (layF P R dn) a 0 := by
  obtain ⟨g, ks⟩ := layF_good S H.left
  have nd := H.nd
  have fw := H.few
  rw [List.nodup_append] at nd
  rw [List.length_append, List.length_cons] at fw
  exact step_go S g ks (H.lt a (by simp)) (fun z => nd.2.2 a z a (by simp) rfl) (by omega)
theorem layF_snoc {P : List (List Int)} {R : List (List (List Int))} {dn : List Nat} {a : Nat} : layF P R (dn ++ [a]) = (ins P R (layF P R dn) a).1 := by
  unfold layF
  rw [layG_app]
  rfl
theorem ord_nat {m : Nat} {ns : List Int} (o : Ord m ns) : ∃ hs : List Nat, ns = hs.map (fun k : Nat => (k : Int)) ∧ hs.Nodup ∧ ∀ k ∈ hs, k < m := by
  have e : ns = (ns.map Int.toNat).map (fun k : Nat => (k : Int)) := by
    rw [List.map_map]
    conv => lhs; rw [← List.map_id ns]
    apply List.map_congr_left
    intro x hx
    have := o.mem.mp hx
    show x = ((x.toNat : Nat) : Int)
    omega
  refine ⟨ns.map Int.toNat, e, ?_, fun k hk => ?_⟩
  · have nd := o.nd
    rw [e] at nd
    exact (List.pairwise_map.mp nd).imp fun h e => h (by rw [e])
  · obtain ⟨x, hx, rfl⟩ := List.mem_map.mp hk
    have := o.mem.mp hx
    omega
def g_rightA : DRs := fun ds st Q => ∃ (p k : Nat), ds = [.ref p] ∧ Pot (k + 5000) p st ∧ ∀ o : O, PotO k o → Q (.bl true) (st.set p o)
theorem ar_rightA (ds : List D) (st : DSt) (Q : DK) (h : g_rightA ds st Q) : ds.length = 1 := by
  obtain ⟨_, _, rfl, _⟩ := h
  rfl
theorem sm_lay {m n : Nat} {sl : List Int} (L : Lay m n sl) (m16 : m ≤ 60) (n16 : n ≤ 60) : Sm 1 1323 (rowD sl) := sm_row (m := 60) (fun x hx => by have := L.rng x hx; omega) (by rw [L.len]; exact n16)
end DL
namespace DL
open PySem PySem.Spec PyProof.Rows L2 LamX PySem.W SL
section
variable {T : List (Addr × Str)} {X : Cx} {a b : Expr} {fa fb : DTE} {pos : Pos}
end
end DL
namespace DL
open PySem PySem.Spec PyProof.Rows L2 LamX PySem.W SL
def onT (x : D) (k : List D → Prop) : Prop := match x with | .tup xs => k xs | _ => False
theorem onT.of {x : D} {k : List D → Prop} (h : onT x k) : ∃ xs, x = .tup xs ∧ k xs := by
  cases x with
  | tup xs => exact ⟨xs, rfl, h⟩
  | _ => exact h.elim
section
variable {T : List (Addr × Str)} {X : Cx}
end
end DL
namespace DL
open PySem PySem.Spec PyProof.Rows L2 LamX PySem.W SL
def F_require_ordered (g_ring_at : DRs) : DTS := (sFor (wRng1 (daCons (dCB dLen (daCons (dVar 0) daNil)) daNil)) (gNm 1) (sIf (dTest (dNotN (dCB g_ring_at (daCons (dVar 0) (daCons (dVar 1) daNil))))) sNever sNext))
end DL
namespace DL
open PySem PySem.Spec PyProof.Rows L2 LamX PySem.W SL
section
variable {m n : Nat} {P : List (List Int)} {R : List (List (List Int))}
structure Farth (P : List (List Int)) (R : List (List (List Int))) (sl L : List Int) : Prop where
  slot : ∀ s k, At sl s k → ∃ k', At L s k' ∧ (k' = k ∨ bt R s k' k = true)
  key : ∀ s k, At sl s k → ∃ u, At L u k ∧ rk P k s ≤ rk P k u
theorem insG_later (S : Setg m n P R) (T : Trn m n R) : ∀ (f : Nat) (sl : List Int) (a i : Nat) (L : List Int) (p : List (Nat × Nat)), Go m n P sl a i → insG P R f sl a i = some (L, p) → Farth P R sl L ∧ ∃ u, At L u a ∧ i ≤ rk P a u
  | 0, sl, a, i, L, p, G, h => by cases h
  | f + 1, sl, a, i, L, p, G, h => by
    have ls := (S.pr_at G.ha G.hi).2
    have ls' : pr P a i < sl.length := by rw [G.g.lay.len]; exact ls
    have ra := S.rk_pr G.ha G.hi
    have hit : At (sl.set (pr P a i) (a : Int)) (pr P a i) a := (at_set ls').mpr (.inl ⟨rfl, rfl⟩)
    rcases G.g.lay.either ls with e | ⟨k, tk⟩
    · rw [insG_free e] at h
      cases h
      have keep : ∀ s x, At sl s x → At (sl.set (pr P a i) (a : Int)) s x := fun s x hx => (at_set ls').mpr (.inr ⟨fun z => by rw [z] at hx; exact hx.ne e, hx⟩)
      exact ⟨⟨fun s x hx => ⟨x, keep s x hx, .inl rfl⟩, fun s x hx => ⟨s, keep s x hx, Nat.le_refl _⟩⟩, _, hit, by omega⟩
    · have hk := (G.g.lay.key tk).1
      rw [insG_taken tk] at h
      by_cases b : bt R (pr P a i) a k = true
      · rw [if_pos b] at h
        obtain ⟨⟨L2, p2⟩, h2, h3⟩ := Option.map_eq_some_iff.mp h
        cases h3
        have G2 := G.swap S tk
        obtain ⟨⟨i1, i2⟩, v, hv, lv⟩ := insG_later S T f _ _ _ _ p2 G2 h2
        have gL := (insG_good S f _ _ _ _ p2 G2 h2).1
        refine ⟨⟨fun s x hx => ?_, fun s x hx => ?_⟩, ?_⟩
        · by_cases z : s = pr P a i
          · rw [z] at hx ⊢
            have : x = k := hx.one tk
            subst this
            obtain ⟨k', h1, h4⟩ := i1 _ _ hit
            refine ⟨k', h1, .inr ?_⟩
            rcases h4 with rfl | h4
            · exact b
            · exact T _ _ _ _ ls (gL.lay.key h1).1 G.ha hk h4 b
          · exact i1 s x ((at_set ls').mpr (.inr ⟨z, hx⟩))
        · by_cases z : s = pr P a i
          · rw [z] at hx ⊢
            have : x = k := hx.one tk
            subst this
            exact ⟨v, hv, by omega⟩
          · exact i2 s x ((at_set ls').mpr (.inr ⟨z, hx⟩))
        · obtain ⟨u, hu, lu⟩ := i2 _ _ hit
          exact ⟨u, hu, by omega⟩
      · rw [if_neg b] at h
        obtain ⟨l, u, hu, lu⟩ := insG_later S T f _ _ _ L p (G.on S tk) h
        exact ⟨l, u, hu, by omega⟩
theorem ins_later (S : Setg m n P R) (T : Trn m n R) {sl : List Int} {a : Nat} (G : Go m n P sl a 0) : Farth P R sl (ins P R sl a).1 := (insG_later S T _ _ _ _ _ _ G (ins_eq S G)).1
def oth (sl : List Int) (a : Nat) : List Nat := (sl.filter fun x => !decide (x = -1) && !decide (x = (a : Int))).map Int.toNat
theorem oth_mem {sl : List Int} (L : Lay m n sl) {a k : Nat} : k ∈ oth sl a ↔ (∃ s, At sl s k) ∧ k ≠ a := by
  unfold oth
  rw [List.mem_map]
  constructor
  · rintro ⟨x, hx, rfl⟩
    obtain ⟨h1, h2⟩ := List.mem_filter.mp hx
    simp only [Bool.and_eq_true, Bool.not_eq_true', decide_eq_false_iff_not] at h2
    have r := L.rng x h1
    obtain ⟨s, hs⟩ := List.mem_iff_getElem?.mp h1
    refine ⟨⟨s, ?_⟩, by omega⟩
    unfold At
    rw [hs]
    congr 1
    omega
  · rintro ⟨⟨s, hs⟩, ne⟩
    refine ⟨(k : Int), List.mem_filter.mpr ⟨List.mem_of_getElem? hs, ?_⟩, by omega⟩
    simp only [Bool.and_eq_true, Bool.not_eq_true', decide_eq_false_iff_not]
    omega
theorem oth_hist {sl : List Int} (L : Lay m n sl) {a : Nat} : Hist m n (oth sl a) := by
  refine ⟨?_, fun k hk => ?_, ?_⟩
  · unfold oth
    rw [List.Nodup, List.pairwise_map]
    have pw : sl.Pairwise fun x y => x ≠ -1 → y ≠ -1 → x ≠ y := List.pairwise_iff_getElem.mpr fun i j hi hj lt h1 h2 e => by
      have r := L.rng _ (List.getElem_mem hi)
      have a1 : At sl i sl[i].toNat := by
        unfold At
        rw [List.getElem?_eq_getElem hi]
        congr 1
        omega
      have a2 : At sl j sl[i].toNat := by
        unfold At
        rw [List.getElem?_eq_getElem hj, ← e]
        congr 1
        omega
      have := L.inj _ _ _ a1 a2
      omega
    refine List.Pairwise.imp_of_mem ?_ (pw.filter _)
    intro x y hx hy h e
    obtain ⟨x1, x2⟩ := List.mem_filter.mp hx
    obtain ⟨y1, y2⟩ := List.mem_filter.mp hy
    simp only [Bool.and_eq_true, Bool.not_eq_true', decide_eq_false_iff_not] at x2 y2
    have := L.rng x x1
    have := L.rng y y1
    exact h x2.1 y2.1 (by omega)
  · exact (L.key ((oth_mem L).mp hk).1.choose_spec).1
  · unfold oth
    rw [List.length_map]
    have := List.length_filter_le (fun x => !decide (x = -1) && !decide (x = (a : Int))) sl
    rw [L.len] at this
    exact this
def g_reqO : DRs := fun ds st Q => ∃ (m : Nat) (R : List (List (List Int))), ds = [tabsD R] ∧ R.length ≤ 60 ∧ m ≤ 60 ∧ (∀ t ∈ R, Tb m t ∧ noRing t = true) ∧ Q .non st
theorem ar_reqO (ds : List D) (st : DSt) (Q : DK) (h : g_reqO ds st Q) : ds.length = 1 := by
  obtain ⟨_, _, rfl, _⟩ := h
  rfl
theorem sem_reqO (ds : List D) (st : DSt) (Q : DK) (h : g_reqO ds st Q) : F_require_ordered g_ring { nx := fun _ st' => Rt st Q .non st', rt := Rt st Q } (startD 2 ds) st := by
  obtain ⟨m, R, rfl, n60, m60, all, q⟩ := h
  have st2 : startD 2 [tabsD R] = [some (.tup (R.map rowsD)), none] := rfl
  simp only [F_require_ordered, st2]
  try simp only [e_var, e_C, e_op, e_neg, e_isN, e_notN, e_and, e_or, e_not, e_test, e_tAnd, e_tOr, e_tNot, e_tYes, e_if, e_aNil, e_aCons, e_tup, e_lst, e_lstN, e_len0, e_len1, e_len2, e_len3, e_len4, e_len5, e_cb, e_on1, e_on2, e_onI, e_onB, e_onO, e_onO0, e_onOO, e_I0, e_I, e_add, e_addT, e_addS, e_addL, e_addLR, e_addRL, e_addRR, e_mul, e_mulL, e_mulT, e_rev, e_revT, e_ix, e_eqI, e_eqS, e_eqB, e_neI, e_neS, e_neB, e_ltI, e_chain, e_len, e_abs, e_2I, e_tuple1, e_tuple2, e_tuple3, e_listT, e_listN, e_allR, e_seqT, e_seqK, e_seqL, e_isi, e_isB, e_notB, e_truth, e_next, e_drop, e_ret, e_retN, e_ifS, e_set, e_asg, e_par, e_nm, e_gsN, e_gsC, e_gTpK, e_gTpL, e_sum, e_maxL, e_minL, e_maxDef, e_int, e_intB, e_aug, e_on3, e_par3, e_newK, e_getK, e_keyI, e_keyS, e_inK, e_ninK, e_putK, e_lenK, e_lstS, e_seqX, e_gTpT, e_oN, e_oS, e_sl, e_slT, e_slL, e_finT, e_finN, e_index, e_idxT, e_idxL, e_mIx, e_ixST, e_ixSL, e_mtL, e_w, e_w1, e_w2, e_wE, e_wZ, e_itK, e_itT, e_itL, e_itT2, e_itL2, e_lc, e_for, e_wipe0, e_wipe, e_okI, e_okR, e_gSb, List.getElem?_cons_zero, List.getElem?_cons_succ, List.set_cons_zero, List.set_cons_succ, List.length_map, Int.toNat_natCast]
  refine ⟨⟨by omega, by omega⟩, ?_⟩
  refine for_inv (fun ds r st' => ∃ (k : Nat) (x1 : Option D), ds = (rgD 0 R.length).drop k ∧ r = [some (.tup (R.map rowsD)), x1] ∧ st = st') ?_ ?_ _ _ _ ⟨0, _, rfl, rfl, rfl⟩
  · rintro d ds r st' N hN ⟨k, x1, e, rfl, rfl⟩
    obtain ⟨ek, lk, rfl⟩ := drop_cons e.symm
    obtain ⟨lt, rfl⟩ := rgD_get ek
    have hk := List.getElem?_eq_getElem (l := R) (i := k) lt
    have tk := all _ (List.getElem_mem (l := R) (n := k) lt)
    rw [Int.zero_add]
    try simp only [e_var, e_C, e_op, e_neg, e_isN, e_notN, e_and, e_or, e_not, e_test, e_tAnd, e_tOr, e_tNot, e_tYes, e_if, e_aNil, e_aCons, e_tup, e_lst, e_lstN, e_len0, e_len1, e_len2, e_len3, e_len4, e_len5, e_cb, e_on1, e_on2, e_onI, e_onB, e_onO, e_onO0, e_onOO, e_I0, e_I, e_add, e_addT, e_addS, e_addL, e_addLR, e_addRL, e_addRR, e_mul, e_mulL, e_mulT, e_rev, e_revT, e_ix, e_eqI, e_eqS, e_eqB, e_neI, e_neS, e_neB, e_ltI, e_chain, e_len, e_abs, e_2I, e_tuple1, e_tuple2, e_tuple3, e_listT, e_listN, e_allR, e_seqT, e_seqK, e_seqL, e_isi, e_isB, e_notB, e_truth, e_next, e_drop, e_ret, e_retN, e_ifS, e_set, e_asg, e_par, e_nm, e_gsN, e_gsC, e_gTpK, e_gTpL, e_sum, e_maxL, e_minL, e_maxDef, e_int, e_intB, e_aug, e_on3, e_par3, e_newK, e_getK, e_keyI, e_keyS, e_inK, e_ninK, e_putK, e_lenK, e_lstS, e_seqX, e_gTpT, e_oN, e_oS, e_sl, e_slT, e_slL, e_finT, e_finN, e_index, e_idxT, e_idxL, e_mIx, e_ixST, e_ixSL, e_mtL, e_w, e_w1, e_w2, e_wE, e_wZ, e_itK, e_itT, e_itL, e_itT2, e_itL2, e_lc, e_for, e_wipe0, e_wipe, e_okI, e_okR, e_gSb, List.getElem?_cons_zero, List.getElem?_cons_succ, List.set_cons_zero, List.set_cons_succ]
    refine ⟨m, R, k, R[k], rfl, hk, tk.1, m60, fun _ => ?_, fun a b c rg => absurd rg (noRing_iff.mp tk.2 a b c)⟩
    try simp only [e_var, e_C, e_op, e_neg, e_isN, e_notN, e_and, e_or, e_not, e_test, e_tAnd, e_tOr, e_tNot, e_tYes, e_if, e_aNil, e_aCons, e_tup, e_lst, e_lstN, e_len0, e_len1, e_len2, e_len3, e_len4, e_len5, e_cb, e_on1, e_on2, e_onI, e_onB, e_onO, e_onO0, e_onOO, e_I0, e_I, e_add, e_addT, e_addS, e_addL, e_addLR, e_addRL, e_addRR, e_mul, e_mulL, e_mulT, e_rev, e_revT, e_ix, e_eqI, e_eqS, e_eqB, e_neI, e_neS, e_neB, e_ltI, e_chain, e_len, e_abs, e_2I, e_tuple1, e_tuple2, e_tuple3, e_listT, e_listN, e_allR, e_seqT, e_seqK, e_seqL, e_isi, e_isB, e_notB, e_truth, e_next, e_drop, e_ret, e_retN, e_ifS, e_set, e_asg, e_par, e_nm, e_gsN, e_gsC, e_gTpK, e_gTpL, e_sum, e_maxL, e_minL, e_maxDef, e_int, e_intB, e_aug, e_on3, e_par3, e_newK, e_getK, e_keyI, e_keyS, e_inK, e_ninK, e_putK, e_lenK, e_lstS, e_seqX, e_gTpT, e_oN, e_oS, e_sl, e_slT, e_slL, e_finT, e_finN, e_index, e_idxT, e_idxL, e_mIx, e_ixST, e_ixSL, e_mtL, e_w, e_w1, e_w2, e_wE, e_wZ, e_itK, e_itT, e_itL, e_itT2, e_itL2, e_lc, e_for, e_wipe0, e_wipe, e_okI, e_okR, e_gSb, List.getElem?_cons_zero, List.getElem?_cons_succ, List.set_cons_zero, List.set_cons_succ]
    refine iteF' rfl ?_
    exact hN _ _ (.inl ⟨k + 1, _, rfl, rfl, rfl⟩)
  · rintro r st' ⟨k, x1, e, rfl, rfl⟩
    try simp only [e_var, e_C, e_op, e_neg, e_isN, e_notN, e_and, e_or, e_not, e_test, e_tAnd, e_tOr, e_tNot, e_tYes, e_if, e_aNil, e_aCons, e_tup, e_lst, e_lstN, e_len0, e_len1, e_len2, e_len3, e_len4, e_len5, e_cb, e_on1, e_on2, e_onI, e_onB, e_onO, e_onO0, e_onOO, e_I0, e_I, e_add, e_addT, e_addS, e_addL, e_addLR, e_addRL, e_addRR, e_mul, e_mulL, e_mulT, e_rev, e_revT, e_ix, e_eqI, e_eqS, e_eqB, e_neI, e_neS, e_neB, e_ltI, e_chain, e_len, e_abs, e_2I, e_tuple1, e_tuple2, e_tuple3, e_listT, e_listN, e_allR, e_seqT, e_seqK, e_seqL, e_isi, e_isB, e_notB, e_truth, e_next, e_drop, e_ret, e_retN, e_ifS, e_set, e_asg, e_par, e_nm, e_gsN, e_gsC, e_gTpK, e_gTpL, e_sum, e_maxL, e_minL, e_maxDef, e_int, e_intB, e_aug, e_on3, e_par3, e_newK, e_getK, e_keyI, e_keyS, e_inK, e_ninK, e_putK, e_lenK, e_lstS, e_seqX, e_gTpT, e_oN, e_oS, e_sl, e_slT, e_slL, e_finT, e_finN, e_index, e_idxT, e_idxL, e_mIx, e_ixST, e_ixSL, e_mtL, e_w, e_w1, e_w2, e_wE, e_wZ, e_itK, e_itT, e_itL, e_itT2, e_itL2, e_lc, e_for, e_wipe0, e_wipe, e_okI, e_okR, e_gSb, List.getElem?_cons_zero, List.getElem?_cons_succ, List.set_cons_zero, List.set_cons_succ]
    exact .inl q
end
end DL
namespace DL
open PySem PySem.Spec PyProof.Rows L2 LamX PySem.W SL
end DL
namespace DL
open PySem PySem.Spec PyProof.Rows L2 LamX PySem.W SL
structure HalfR (m : Nat) (E : Nat → Nat → Prop) (rs : List (List Int)) : Prop where
  len : rs.length = m
  nd : ∀ x, x < m → (rs.getD x []).Nodup
  inr : ∀ x, x < m → ∀ z ∈ rs.getD x [], ∃ y : Nat, y < m ∧ z = (y : Int) ∧ (E x y ∨ E y x)
  one : ∀ x y, x < m → y < m → E x y → ((y : Int) ∈ rs.getD x [] ↔ ¬ (x : Int) ∈ rs.getD y [])
section
variable {m : Nat} {E F : Nat → Nat → Prop} {rs : List (List Int)}
theorem HalfR.congr (h : HalfR m E rs) (e : ∀ x y, x < m → y < m → (E x y ↔ F x y)) : HalfR m F rs :=
  ⟨h.len, h.nd, fun x hx z hz => by
    obtain ⟨y, hy, ez, q⟩ := h.inr x hx z hz
    exact ⟨y, hy, ez, q.imp (e x y hx hy).mp (e y x hy hx).mp⟩, fun x y hx hy q => h.one x y hx hy ((e x y hx hy).mpr q)⟩
theorem HalfR.start (m : Nat) (E : Nat → Nat → Prop) (no : ∀ x y, ¬ E x y) : HalfR m E (List.replicate m []) := by
  have z : ∀ x, (List.replicate m ([] : List Int)).getD x [] = [] := fun x => by
    rw [List.getD_eq_getElem?_getD, List.getElem?_replicate]
    split <;> rfl
  refine ⟨by simp, fun x hx => by rw [z]; exact List.nodup_nil, fun x hx y hy => ?_, fun x y hx hy q => absurd q (no x y)⟩
  rw [z] at hy
  cases hy
theorem HalfR.step {a b u v : Nat} (h : HalfR m E rs) (ab : a ≠ b) (ha : a < m) (hb : b < m) (n1 : ¬ E a b) (n2 : ¬ E b a) (uv : (u = a ∧ v = b) ∨ (u = b ∧ v = a)) : HalfR m (fun x y => E x y ∨ (x = a ∧ y = b)) (rs.set u (rs.getD u [] ++ [(v : Int)])) := by
  have hum : u < m := by omega
  have hvm : v < m := by omega
  have hu : u < rs.length := by rw [h.len]; exact hum
  have no : ¬ E u v ∧ ¬ E v u := by
    rcases uv with ⟨rfl, rfl⟩ | ⟨rfl, rfl⟩
    · exact ⟨n1, n2⟩
    · exact ⟨n2, n1⟩
  have nv : ¬ (v : Int) ∈ rs.getD u [] := fun z => by
    obtain ⟨y, hy, ez, q⟩ := h.inr u hum _ z
    have : y = v := by omega
    subst this
    exact q.elim no.1 no.2
  have nu : ¬ (u : Int) ∈ rs.getD v [] := fun z => by
    obtain ⟨y, hy, ez, q⟩ := h.inr v hvm _ z
    have : y = u := by omega
    subst this
    exact q.elim no.2 no.1
  refine ⟨by rw [List.length_set]; exact h.len, fun x hx => ?_, fun x hx z hz => ?_, fun x y hx hy q => ?_⟩
  · by_cases e : x = u
    · subst e
      rw [List.getD_eq_getElem?_getD (l := rs.set _ _), List.getElem?_set_self hu]
      show (rs.getD x [] ++ [(v : Int)]).Nodup
      rw [List.nodup_append]
      refine ⟨h.nd x hx, by simp, fun a ha b hb => ?_⟩
      rw [List.mem_singleton.mp hb]
      rintro rfl
      exact nv ha
    · rw [List.getD_eq_getElem?_getD (l := rs.set _ _), List.getElem?_set_ne (fun w => e w.symm), ← List.getD_eq_getElem?_getD]
      exact h.nd x hx
  · rcases (mem_setD hu).mp hz with q | ⟨e1, e2⟩
    · obtain ⟨y, hy, ez, q⟩ := h.inr x hx z q
      exact ⟨y, hy, ez, q.imp .inl .inl⟩
    · refine ⟨v, hvm, e2, ?_⟩
      rcases uv with ⟨rfl, rfl⟩ | ⟨rfl, rfl⟩
      · exact .inl (.inr ⟨e1, rfl⟩)
      · exact .inr (.inr ⟨rfl, e1⟩)
  · rw [mem_setD hu, mem_setD hu]
    by_cases e : x = a ∧ y = b
    · obtain ⟨rfl, rfl⟩ := e
      rcases uv with ⟨rfl, rfl⟩ | ⟨rfl, rfl⟩
      · constructor
        · rintro _ (z | ⟨z, _⟩)
          · exact nu z
          · exact ab z.symm
        · exact fun _ => .inr ⟨rfl, rfl⟩
      · constructor
        · rintro (z | ⟨z, _⟩) _
          · exact nu z
          · exact ab z
        · exact fun z => absurd (.inr ⟨rfl, rfl⟩) z
    · have q' : E x y := q.elim id fun w => absurd w e
      have z := h.one x y hx hy q'
      have w1 : ¬ (x = u ∧ (y : Int) = (v : Int)) := fun w => by
        have : y = v := by omega
        rw [w.1, this] at q'
        exact no.1 q'
      have w2 : ¬ (y = u ∧ (x : Int) = (v : Int)) := fun w => by
        have : x = v := by omega
        rw [w.1, this] at q'
        exact no.2 q'
      simp only [w1, w2, or_false]
      exact z
theorem HalfR.few (h : HalfR m E rs) {u : Nat} (hu : u < m) : (rs.getD u []).length ≤ m := by
  have z := sub_len (ys := DL.R m) (h.nd u hu) fun x hx => by
    obtain ⟨y, hy, ez, _⟩ := h.inr u hu x hx
    rw [R_mem]
    omega
  rw [R_length] at z
  exact z
theorem HalfR.tb (h : HalfR m E rs) (all : ∀ x y, x < m → y < m → x ≠ y → E x y ∨ E y x) (irr : ∀ x, ¬ E x x) : Tb m (rs.map sortI) := by
  refine Half.tb ⟨h.len, h.nd, fun x hx z hz => ?_, fun x y hx hy q => ?_⟩
  · obtain ⟨y, hy, ez, q⟩ := h.inr x hx z hz
    have ne : x ≠ y := fun e => by
      subst e
      exact q.elim (irr x) (irr x)
    refine ⟨y, hy, ez, ?_⟩
    unfold Dn
    omega
  · unfold Dn at q
    rcases all x y hx hy (by omega) with e | e
    · exact h.one x y hx hy e
    · have := h.one y x hy hx e
      constructor
      · exact fun a b => this.mp b a
      · exact fun a => Classical.byContradiction fun b => a (this.mpr b)
end
def Along (hs : List Nat) (a b x y : Nat) : Prop := ∃ i j, i < j ∧ hs[i]? = some x ∧ hs[j]? = some y ∧ (i < a ∨ (i = a ∧ j < b))
theorem nd_ix {hs : List Nat} (nd : hs.Nodup) {i j x : Nat} (h : hs[i]? = some x) (q : hs[j]? = some x) : i = j := by
  have li := (List.getElem?_eq_some_iff.mp h).1
  have lj := (List.getElem?_eq_some_iff.mp q).1
  have e : hs[i] = hs[j] := by
    have h2 := (List.getElem?_eq_some_iff.mp h).2
    have q2 := (List.getElem?_eq_some_iff.mp q).2
    rw [h2, q2]
  have pw := List.pairwise_iff_getElem.mp nd
  rcases Nat.lt_trichotomy i j with w | w | w
  · exact absurd e (pw i j li lj w)
  · exact w
  · exact absurd e.symm (pw j i lj li w)
theorem Along.step {hs : List Nat} (nd : hs.Nodup) {a b u v x y : Nat} (ab : a < b) (hu : hs[a]? = some u) (hv : hs[b]? = some v) : (Along hs a b x y ∨ (x = u ∧ y = v)) ↔ Along hs a (b + 1) x y := by
  constructor
  · rintro (⟨i, j, ij, h1, h2, q⟩ | ⟨rfl, rfl⟩)
    · exact ⟨i, j, ij, h1, h2, by omega⟩
    · exact ⟨a, b, ab, hu, hv, by omega⟩
  · rintro ⟨i, j, ij, h1, h2, q⟩
    by_cases e : i = a ∧ j = b
    · obtain ⟨rfl, rfl⟩ := e
      rw [hu] at h1
      rw [hv] at h2
      exact .inr ⟨(Option.some.inj h1).symm, (Option.some.inj h2).symm⟩
    · exact .inl ⟨i, j, ij, h1, h2, by omega⟩
theorem Along.not {hs : List Nat} (nd : hs.Nodup) {a b u v : Nat} (ab : a < b) (hu : hs[a]? = some u) (hv : hs[b]? = some v) : ¬ Along hs a b u v ∧ ¬ Along hs a b v u := by
  constructor
  · rintro ⟨i, j, ij, h1, h2, q⟩
    have := nd_ix nd h1 hu
    have := nd_ix nd h2 hv
    omega
  · rintro ⟨i, j, ij, h1, h2, q⟩
    have := nd_ix nd h1 hv
    have := nd_ix nd h2 hu
    omega
end DL
namespace DL
open PySem PySem.Spec PyProof.Rows L2 LamX PySem.W SL
structure Rul (m n : Nat) (R : List (List (List Int))) : Prop where
  len : R.length = n
  tb : ∀ t ∈ R, Tb m t
  m0 : 1 ≤ m
  m16 : m ≤ 16
  n0 : 1 ≤ n
  n16 : n ≤ 16
theorem Rul.at0 {m n : Nat} {R : List (List (List Int))} (W : Rul m n R) : atI (R.map rowsD) 0 = some (.tup ((R.getD 0 []).map rowD)) ∧ (R.getD 0 []).length = m := by
  have lR := W.len
  have n0 := W.n0
  have h := List.getElem?_eq_getElem (l := R) (i := 0) (by omega)
  have e : R.getD 0 [] = R[0] := by rw [List.getD_eq_getElem?_getD, h]; rfl
  rw [e]
  exact ⟨at_map (i := 0) h, (W.tb _ (List.getElem_mem _)).len⟩
theorem ring_at_ {m : Nat} {t : List (List Int)} (tb : Tb m t) {a b c : Int} (r : Ring t a b c) : (0 ≤ a ∧ a < m) ∧ (0 ≤ b ∧ b < m) ∧ (0 ≤ c ∧ c < m) ∧ atI (t.map rowD) a = some (rowD (t.getD a.toNat [])) ∧ atI (t.map rowD) b = some (rowD (t.getD b.toNat [])) ∧ atI (t.map rowD) c = some (rowD (t.getD c.toNat [])) := by
  obtain ⟨a0, a1, hb, hc, ha⟩ := r
  rw [tb.len] at a1
  have b1 := tb.mem a0 a1 hb
  have c1 := tb.mem b1.1 b1.2 hc
  exact ⟨⟨a0, a1⟩, b1, c1, tb.at_ a0 a1, tb.at_ b1.1 b1.2, tb.at_ c1.1 c1.2⟩
end DL
namespace DL
open PySem PySem.Spec PyProof.Rows L2 LamX PySem.W SL
theorem enum_dropG {xs : List D} {i : Nat} {d : D} {ds : List D} (h : d :: ds = (enumD xs).drop i) : ∃ x, xs[i]? = some x ∧ d = .tuk [.int (i : Nat), x] ∧ ds = (enumD xs).drop (i + 1) := by
  obtain ⟨e, _, e2⟩ := drop_cons h.symm
  obtain ⟨x, ex, rfl⟩ := enumD_get e
  exact ⟨x, ex, rfl, e2.symm⟩
end DL
namespace DL
open PySem PySem.Spec PyProof.Rows L2 LamX PySem.W SL
end DL
namespace DL
open PySem PySem.Spec PyProof.Rows L2 LamX PySem.W SL
end DL
namespace DL
open PySem PySem.Spec PyProof.Rows L2 LamX PySem.W SL
section
variable {m n : Nat} {P : List (List Int)} {R : List (List (List Int))}
def First (m n : Nat) (P : List (List Int)) (s0 : Nat) : Prop := s0 < n ∧ ∀ a, a < m → pr P a 0 = s0
theorem First.ne (S : Setg m n P R) {s0 a i : Nat} (F : First m n P s0) (ha : a < m) (hi : i < n) (i1 : 1 ≤ i) : pr P a i ≠ s0 := fun e => by
  have h := S.rk_pr ha hi
  rw [e, ← F.2 a ha, S.rk_pr ha (by omega)] at h
  omega
theorem lay_nil : layF P R [] = emp R.length := rfl
end
end DL
namespace DL
open PySem PySem.Spec PyProof.Rows L2 LamX PySem.W SL
section
variable {m n : Nat} {P : List (List Int)} {R : List (List (List Int))}
end
end DL
namespace DL
open PySem PySem.Spec PyProof.Rows L2 LamX PySem.W SL
def hI (h : List Nat) : List Int := h.map fun k : Nat => (k : Int)
end DL
namespace DL
open PySem PySem.Spec PyProof.Rows L2 LamX PySem.W SL
section
variable {m n : Nat} {P : List (List Int)} {R : List (List (List Int))}
theorem lay_ix {L : List Int} (Ly : Lay m n L) {u k : Nat} (h : At L u k) : ixOf (k : Int) L = some u := by
  have mem : (k : Int) ∈ L := List.mem_of_getElem? h
  obtain ⟨e, i⟩ := pos_at mem
  rw [i, Ly.inj _ _ _ e h]
end
def nL (h : List Nat) : List D := h.map fun k : Nat => D.int (k : Nat)
theorem nL_ints (h : List Nat) : nL h = (hI h).map D.int := by
  unfold nL hI
  rw [List.map_map]
  rfl
theorem nL_perm {ys : List D} {h : List Nat} (pm : ys.Perm (nL h)) : ∃ h2 : List Nat, ys = nL h2 ∧ h2.Perm h := by
  have z : ∀ y ∈ ys, ∃ i : Nat, y = .int (i : Nat) := fun y hy => by
    obtain ⟨i, _, rfl⟩ := List.mem_map.mp (pm.mem_iff.mp hy)
    exact ⟨i, rfl⟩
  refine ⟨ys.map fun d => match d with | .int i => i.toNat | _ => 0, ?_, ?_⟩
  · unfold nL
    rw [List.map_map]
    refine (List.map_id ys).symm.trans (List.map_congr_left fun y hy => ?_)
    obtain ⟨i, rfl⟩ := z y hy
    rfl
  · have w := pm.map (fun d : D => match d with | .int i => i.toNat | _ => 0)
    unfold nL at w
    rw [List.map_map] at w
    rw [show ((fun d : D => match d with | .int i => i.toNat | _ => 0) ∘ fun k : Nat => D.int (k : Nat)) = id from rfl, List.map_id] at w
    exact w
def srt (h : List Nat) : List Nat := (sortI (hI h)).map Int.toNat
theorem srt_row (h : List Nat) : (sortI (hI h)).map D.int = nL (srt h) := by
  unfold nL srt
  rw [List.map_map]
  apply List.map_congr_left
  intro x hx
  obtain ⟨k, _, rfl⟩ := List.mem_map.mp ((sortI_perm _).mem_iff.mp hx)
  rfl
theorem srt_perm (h : List Nat) : (srt h).Perm h := by
  have p := (sortI_perm (hI h)).map Int.toNat
  unfold hI at p
  rw [List.map_map] at p
  rw [show (Int.toNat ∘ fun k : Nat => (k : Int)) = id from rfl, List.map_id] at p
  exact p
theorem Hist.ofPerm {m n : Nat} {h h2 : List Nat} (H : Hist m n h) (p : h2.Perm h) : Hist m n h2 := ⟨p.nodup_iff.mpr H.nd, fun k hk => H.lt k (p.mem_iff.mp hk), by rw [p.length_eq]; exact H.few⟩
theorem nin_seq {st : DSt} {y : D} {ns : List Int} {x : Int} {Q : DK} (e : seqS st y = some (ns.map D.int)) (q : Q (.bl (!decide (x ∈ ns))) st) : dInG true (.int x) y st Q := by
  simp only [e_nin, e, e_onO]
  refine ⟨⟨rfl, flat_row ns⟩, ?_⟩
  have z : (ns.map D.int).any (fun y => eqF y (.int x)) = decide (x ∈ ns) := by
    rw [Bool.eq_iff_iff, List.any_eq_true, decide_eq_true_eq]
    constructor
    · rintro ⟨d, hd, e⟩
      obtain ⟨i, hi, rfl⟩ := List.mem_map.mp hd
      have e' : (i == x) = true := e
      have : i = x := by simpa using e'
      rw [← this]; exact hi
    · intro h
      exact ⟨.int x, List.mem_map.mpr ⟨x, h, rfl⟩, by show (x == x) = true; simp⟩
  rw [z]
  exact q
theorem ordT_noRing {n : Nat} {ns : List Int} (o : Ord n ns) : noRing (DL.ordT ns) = true := by
  refine noRing_iff.mpr fun a b c r => ?_
  have tb := o.tb
  obtain ⟨ra, rb, rc, _⟩ := ring_at_ tb r
  obtain ⟨_, _, hb, hc, ha⟩ := r
  have e : ∀ x : Int, 0 ≤ x → ((x.toNat : Nat) : Int) = x := fun x h => by omega
  have h1 := ((o.beats (a := a.toNat) (by omega)).mp hb).2
  have h2 := ((o.beats (a := b.toNat) (by omega)).mp hc).2
  have h3 := ((o.beats (a := c.toNat) (by omega)).mp ha).2
  rw [e _ ra.1] at h1
  rw [e _ rb.1] at h2
  rw [e _ rc.1] at h3
  omega
end DL
namespace DL
open PySem PySem.Spec PyProof.Rows L2 LamX PySem.W SL
theorem sm_nL {h : List Nat} {m n : Nat} (H : Hist m n h) (m60 : m ≤ 60) : ∀ d ∈ nL h, Sm 30 100000 d := fun d hd => by
  obtain ⟨k, hk, rfl⟩ := List.mem_map.mp hd
  have := H.lt k hk
  exact (sm_int (by omega) (by omega)).mono (by decide) (by decide)
theorem erase_perm {α : Type} : ∀ (h : List α) (r : Nat) (lt : r < h.length), (h.eraseIdx r ++ [h[r]]).Perm h
  | x :: t, 0, _ => by
    show (t ++ [x]).Perm (x :: t)
    exact List.perm_append_comm
  | x :: t, r + 1, lt => by
    have l2 : r < t.length := by simpa using lt
    show (x :: (t.eraseIdx r ++ [t[r]])).Perm (x :: t)
    exact List.Perm.cons x (erase_perm t r l2)
end DL
namespace DL
open PySem PySem.Spec PyProof.Rows L2 LamX PySem.W SL
section
variable {T : List (Addr × Str)} {X : Cx} {K : Frag} {a b : Expr} {fa fb : DTE} {pos : Pos}
end
end DL
namespace SL
open PySem PySem.Spec PyProof.Rows L2
section
variable {prog : Program} {w : World} {A : Around} {R : Result → Shared → Prop} {itr : Addr} {seen mv : List Addr} {n : Nat} {Pk : Nat → Value → Prop} {Stt : Nat → Heap → Prop}
end
section
variable {prog : Program} {w : World} {A : Around} {E : Value → Shared → Prop} {s : Shared}
end
end SL
namespace DL
open PySem PySem.Spec PyProof.Rows L2 LamX PySem.W SL
section
variable {X : Cx}
end
end DL
namespace SL
open PySem PySem.Spec PyProof.Rows L2
section
variable {prog : Program} {w : World} {A : Around} {E : Value → Shared → Prop} {s : Shared}
end
section
variable {prog : Program} {w : World} {A : Around} {R : Result → Shared → Prop}
end
section
variable {prog : Program} {w : World} {A : Around} {E : Value → Shared → Prop} {s : Shared}
end
end SL
namespace SL
open PySem PySem.Spec PyProof.Rows L2
structure NewE (H H2 : Hp) (box : Addr) (xs : List V) (ps : List Addr) : Prop where
  len : ps.length = xs.length
  nd : ps.Nodup
  nb : H box = none
  np : ∀ p ∈ ps, p ≠ box ∧ H p = none
  box_ : H2 box = some (.lst (ps.map V.ref))
  pair : ∀ (j : Nat) (p : Addr) (x : V), ps[j]? = some p → xs[j]? = some x → H2 p = some (.tup [.int (j : Nat), x])
  old : ∀ b, b ≠ box → b ∉ ps → H2 b = H b
theorem NewE.ext {H H2 : Hp} {box : Addr} {xs : List V} {ps : List Addr} (N : NewE H H2 box xs ps) {b : Addr} {o : HO} (e : H b = some o) : H2 b = some o := by
  rw [N.old b (fun z => by rw [z, N.nb] at e; cases e) (fun z => by rw [(N.np b z).2] at e; cases e)]
  exact e
section
variable {X : Cx} {pins : List (Addr × Obj)} {σ : L2.St} {H : Hp} {s : Shared}
end
end SL
namespace DL
open PySem PySem.Spec PyProof.Rows L2 LamX PySem.W SL
def dLEnum (fs : DTA) : DTE := fun r st Q => fs r st fun ds st1 => on1 ds fun x => match x with
  | .tup xs => Q (.lst (enumD xs)) st1
  | _ => False
@[simp] theorem e_lenum {fs : DTA} {r : DEnv} {st : DSt} {Q : DK} : dLEnum fs r st Q = fs r st fun ds st1 => on1 ds fun x => match x with
  | .tup xs => Q (.lst (enumD xs)) st1
  | _ => False := rfl
section
variable {T : List (Addr × Str)} {X : Cx}
end
end DL
set_option maxHeartbeats 2000000
namespace SL
open PySem PySem.Spec PyProof.Rows L2
def ExK (cls : Value) (d : Option Addr) (a : Addr) : HO := .ext fun h => ∃ (oe : Obj) (vs : Array Value), h.get? a = some oe ∧ Zc cls d oe ∧ oe.data = .fields vs
section
variable {X : Cx} {pins : List (Addr × Obj)} {σ : L2.St} {H : Hp} {s : Shared} {a : Addr} {oe : Obj} {cls : Value} {d : Option Addr}
end
section
variable {X : Cx} {x n m : Str} {c : Value} {i j : Nat} {body : List Stmt} {np pos pos' p1 p2 p3 : Pos} {tb : WX → TS}
end
end SL
set_option maxHeartbeats 2000000
namespace DL
open PySem PySem.Spec PyProof.Rows L2 LamX PySem.W SL
abbrev Fld := Option (Str × Int)
def ExD (H : Hp) (fld : Fld) (d : Option Addr) : Prop := match fld with
  | none => d = none
  | some (n, i) => ∃ dd, d = some dd ∧ H dd = some (.xd [(n, .int i)])
def Wish (T : List (Addr × Str)) (K : Frag) (mg : Str → Option Value) (M : Pl) (H : Hp) (st : DSt) (C : Str) (fld : Fld) (E : XK) : Prop :=
  ∀ (M' : Pl) (H' : Hp) (cls : Value) (d : Option Addr), Grow M H M' H' → RS T K M' st H' → mg C = some cls → ExD H' fld d → E cls d H'
theorem Wish.grow {T : List (Addr × Str)} {K : Frag} {mg : Str → Option Value} {M M1 : Pl} {H H1 : Hp} {st : DSt} {C : Str} {fld : Fld} {E : XK} (w : Wish T K mg M H st C fld E) (g : Grow M H M1 H1) : Wish T K mg M1 H1 st C fld E :=
  fun M' H' cls d g1 s m x => w M' H' cls d (g.trans g1) s m x
section
variable {T : List (Addr × Str)} {X : Cx} {M0 : Pl} {H0 : Hp} {s1 : Stmt} {rest a b : List Stmt} {F1 : DTS} {B B2 : DEnv → DSt → Prop} {c : Expr} {t : DTT} {pos : Pos}
end
section
variable {P : Program} {w : World} {K : Frag} {mg : Str → Option Value} {base : Heap}
end
section
variable {T : List (Addr × Str)} {X : Cx} {M0 : Pl} {H0 : Hp} {st0 : DSt} {C n : Str} {i : Int} {E : XK} {e : Expr} {f : DTE} {p pos rpos : Pos}
end
section
variable {P : Program} {w : World} {K : Frag} {mg : Str → Option Value} {base : Heap}
end
section
variable {P : Program} {w : World} {K : Frag} {mg : Str → Option Value} {base : Heap} {T : List (Addr × Str)}
end
end DL
set_option maxHeartbeats 2000000
namespace SL
open PySem PySem.Spec PyProof.Rows L2 LamX
structure Kcl (K : PySem.W.Frag) (C : Addr) : Prop where
  is_ : ExcC K C
  xf : XfC K C
section
variable {X : Cx}
section
variable {cN fN Cj lab fld : Str} {v1 : Vis X.env.scope cN} {q1 q2 q3 q4 q5 q6 q7 q8 q9 pos : Pos} {kk : Nat} {cj : Addr}
end
end
end SL
set_option maxHeartbeats 2000000
namespace SL
open PySem PySem.Spec PyProof.Rows L2 LamX
section
variable {X : Cx} {pins : List (Addr × Obj)} {σ : L2.St} {H HZ : Hp} {s s1 : Shared} {W : WX} {E : XK}
end
end SL
set_option maxHeartbeats 2000000
namespace SL
open PySem PySem.Spec PyProof.Rows L2 LamX
open DL (Fld PS.imp PSs.imp PE.imp)
section
variable {X : Cx} {C : Addr} {lab : Str} {fld : Fld} {rest body : List Stmt} {pos q1 q2 q3 q4 q5 q6 q7 q8 q9 : Pos} {cN fN : Str} {e e2 : Expr} {c : V} {cv : Value}
end
section
variable {X : Cx} {C CS : Addr} {lab : Str} {fld : Fld}
end
end SL
set_option maxHeartbeats 2000000
namespace DL
open PySem PySem.Spec PyProof.Rows L2 LamX PySem.W SL
section
variable {T : List (Addr × Str)} {X : Cx}
end
end DL
set_option maxHeartbeats 2000000
namespace DL
open PySem PySem.Spec PyProof.Rows L2 LamX PySem.W SL
section
variable {T : List (Addr × Str)} {X : Cx}
end
section
variable {K : Frag}
end
end DL
namespace DL
open PySem PySem.Spec PyProof.Rows L2 LamX PySem.W SL
end DL
namespace DL
open PySem PySem.Spec PyProof.Rows L2 LamX PySem.W SL
end DL
set_option maxHeartbeats 2000000
namespace DL
open PySem PySem.Spec PyProof.Rows L2 LamX PySem.W SL
section
variable {T : List (Addr × Str)} {X : Cx} {M0 : Pl} {H0 : Hp} {B : DEnv → DSt → Prop} {e : Expr} {pos : Pos}
end
end DL
namespace SL
open PySem PySem.Spec PyProof.Rows L2 LamX DL
def T2 (K : PySem.W.Frag) (C : Addr) (n : Str) (i : Int) : TS := fun D σ H => ∃ a dd, σ[1]? = some (some (.ref a)) ∧ H a = some (ExK (.ref C) (some dd) a) ∧ H dd = some (.xd [(n, .int i)]) ∧ Kcl K C ∧ D.rt (.int i) H
section
variable {X : Cx} {C CS : Addr} {n : Str} {i : Int}
end
end SL
set_option maxHeartbeats 2000000
namespace SL
open PySem PySem.Spec PyProof.Rows L2 LamX DL
section
variable {X : Cx} {C : Addr} {n : Str} {i : Int}
end
end SL
namespace DL
open PySem PySem.Spec PyProof.Rows L2 LamX PySem.W SL
section
variable {T : List (Addr × Str)} {X : Cx}
end
end DL
set_option maxHeartbeats 2000000
namespace DL
open PySem PySem.Spec PyProof.Rows L2 LamX PySem.W SL
section
variable {T : List (Addr × Str)} {X : Cx} {M0 : Pl} {H0 : Hp} {st : Stmt} {rest a b : List Stmt} {F G : DTS} {c : Expr} {t : DTT} {pos : Pos}
end
end DL
set_option maxHeartbeats 2000000
namespace DL
open PySem PySem.Spec PyProof.Rows L2 LamX PySem.W SL
section
variable {T : List (Addr × Str)} {X : Cx} {M0 : Pl} {H0 : Hp} {B : DEnv → DSt → Prop} {e : Expr} {es : List Expr} {f : DTE} {pos : Pos}
end
end DL
namespace DL
open PySem PySem.Spec PyProof.Rows L2 LamX PySem.W SL
end DL
namespace DL
open PySem PySem.Spec PyProof.Rows L2 LamX PySem.W SL
end DL
namespace ML
def sq (i : Nat) : Int := (i : Int) * i
structure Pl (n : Nat) (o : Nat → Prop) (h d : Nat → Nat) : Prop where
  home : ∀ s, s < n → o s → h s < n
  far : ∀ s, s < n → o s → d s < n ∧ (h s + d s) % n = s
variable {n : Nat} {o : Nat → Prop} [DecidablePred o] {h d : Nat → Nat}
def ev (n : Nat) (o : Nat → Prop) [DecidablePred o] (h d : Nat → Nat) (u j s : Nat) : Int := if o s ∧ dist n (h s) u + j < d s then 1 else 0
end ML
namespace DL
open PySem PySem.Spec PyProof.Rows L2 LamX PySem.W SL
def hm (hs : List Nat) (k : Nat) : Nat := hs.getD k 0
def lineP (n : Nat) (hs : List Nat) : List (List Int) := hs.map fun h : Nat => lineI n (h : Int)
structure Lin (m n : Nat) (hs : List Nat) (P : List (List Int)) (R : List (List (List Int))) : Prop where
  s : Setg m n P R
  len : hs.length = m
  lt : ∀ h ∈ hs, h < n
  p : P = lineP n hs
  n0 : 0 < n
section
variable {m n : Nat} {hs : List Nat} {P : List (List Int)} {R : List (List (List Int))}
theorem Lin.hm_lt (S : Lin m n hs P R) {k : Nat} (hk : k < m) : hm hs k < n := S.lt _ (getD_memL (by rw [S.len]; exact hk))
theorem Lin.pr (S : Lin m n hs P R) {a i : Nat} (ha : a < m) (hi : i < n) : DL.pr P a i = (hm hs a + i) % n := by
  have e : P.getD a [] = lineI n ((hm hs a : Nat) : Int) := by
    rw [S.p]
    unfold lineP hm
    rw [List.getD_eq_getElem?_getD, List.getD_eq_getElem?_getD, List.getElem?_map, List.getElem?_eq_getElem (by rw [S.len]; exact ha)]
    rfl
  unfold DL.pr
  rw [e]
  unfold lineI
  rw [List.getD_eq_getElem?_getD, List.getElem?_map, List.getElem?_range hi]
  show ((((hm hs a : Nat) : Int) + ((i : Nat) : Int)) % (n : Int)).toNat = _
  rw [← Int.natCast_add, ← Int.natCast_emod]
  rfl
theorem Lin.rk (S : Lin m n hs P R) {a s : Nat} (ha : a < m) (hs' : s < n) : DL.rk P a s = ML.dist n (hm hs a) s := by
  have h1 := S.hm_lt ha
  have l := ML.dist_lt (n := n) (a := hm hs a) (i := s) S.n0
  have e := S.pr ha l
  have z := (ML.dist_eq (n := n) h1 hs' l).mp rfl
  rw [← z] at e
  have w := S.s.rk_pr ha l
  rw [e] at w
  exact w
def tm (n : Nat) (hs : List Nat) (sl : List Int) (u s : Nat) : Int := if 0 ≤ sl.getD s (-1) ∧ ML.dist n (hm hs (sl.getD s (-1)).toNat) u + 0 < ML.dist n (hm hs (sl.getD s (-1)).toNat) s then 1 else 0
def pa (n : Nat) (hs : List Nat) (sl : List Int) (u : Nat) : Int := ML.sumN n (tm n hs sl u)
def one (b : Bool) : Int := if b then 1 else 0
theorem At.getD {sl : List Int} {s k : Nat} (h : At sl s k) : sl.getD s (-1) = (k : Int) := by
  unfold At at h
  rw [List.getD_eq_getElem?_getD, h]
  rfl
structure FE (n : Nat) (sl : List Int) (x t : Nat) : Prop where
  lt : t < n
  tk : ∀ j, j < t → ∃ k, At sl ((x + j) % n) k
  free : sl[(x + t) % n]? = some (-1)
theorem FE.next {sl : List Int} {x t a : Nat} (F : FE n sl x (t + 1)) (hx : x < n) (l : sl.length = n) : FE n (sl.set x (a : Int)) ((x + 1) % n) t ∧ FE n sl ((x + 1) % n) t := by
  have lt := F.lt
  have e : ∀ j, ((x + 1) % n + j) % n = (x + (j + 1)) % n := fun j => by rw [Nat.mod_add_mod, show x + 1 + j = x + (j + 1) by omega]
  refine ⟨⟨by omega, fun j hj => ?_, ?_⟩, ⟨by omega, fun j hj => ?_, ?_⟩⟩
  · rw [e]
    obtain ⟨k, hk⟩ := F.tk (j + 1) (by omega)
    exact taken_set (by omega) hk
  · rw [e, List.getElem?_set_ne]
    · exact F.free
    · intro z
      by_cases q : x + (t + 1) < n
      · rw [Nat.mod_eq_of_lt q] at z
        omega
      · rw [show x + (t + 1) = (x + (t + 1) - n) + n by omega, Nat.add_mod_right, Nat.mod_eq_of_lt (by omega)] at z
        omega
  · rw [e]
    exact F.tk (j + 1) (by omega)
  · rw [e]
    exact F.free
end
end DL
namespace DL
open PySem PySem.Spec PyProof.Rows L2 LamX PySem.W SL
section
variable {m n : Nat} {hs : List Nat} {P : List (List Int)} {R : List (List (List Int))}
theorem flow_le {c : List Int} (hc : Cnt c) {u : Nat} (hu : u < c.length) : 0 ≤ (ML.flowsI c).getD u 0 ∧ (ML.flowsI c).getD u 0 ≤ c.length := by
  have f := hc.fl _ (getD_mem (l := ML.flowsI c) (i := u) (by rw [ML.flowsI_length]; exact hu))
  omega
end
end DL
namespace DL
open PySem PySem.Spec PyProof.Rows L2 LamX PySem.W SL
end DL
namespace DL
open PySem PySem.Spec PyProof.Rows L2 LamX PySem.W SL
end DL
namespace DL
open PySem PySem.Spec PyProof.Rows L2 LamX PySem.W SL
def hL (hs : List Nat) : List D := hs.map fun h : Nat => D.int (h : Nat)
structure HLay (m n : Nat) (hs : List Nat) (sl : List Int) : Prop where
  len : hs.length = m
  lt : ∀ h ∈ hs, h < n
  lay : Lay m n sl
  n0 : 0 < n
  few : n ≤ 100
theorem HLay.hm_lt {m n : Nat} {hs : List Nat} {sl : List Int} (S : HLay m n hs sl) {k : Nat} (hk : k < m) : hm hs k < n := S.lt _ (getD_memL (by rw [S.len]; exact hk))
end DL
namespace DL
open PySem PySem.Spec PyProof.Rows L2 LamX PySem.W SL
section
variable {m n : Nat} {hs : List Nat} {P : List (List Int)} {R : List (List (List Int))}
end
end DL
namespace DL
open PySem PySem.Spec PyProof.Rows L2 LamX PySem.W SL
end DL
namespace DL
open PySem PySem.Spec PyProof.Rows L2 LamX PySem.W SL
end DL
namespace DL
open PySem PySem.Spec PyProof.Rows L2 LamX PySem.W SL
end DL
namespace DL
open PySem PySem.Spec PyProof.Rows L2 LamX PySem.W SL
section
variable {m n : Nat} {P : List (List Int)} {R : List (List (List Int))}
theorem oth_lay (S : Setg m n P R) {so : List Nat} (H : Hist m n so) (a x : Nat) : x ∈ oth (layF P R so) a ↔ x ∈ so ∧ x ≠ a := by
  rw [oth_mem (layF_good S H).1.lay, (layF_good S H).2]
theorem back (S : Setg m n P R) (T : Trn m n R) {so : List Nat} (H : Hist m n so) {a : Nat} (ha : a ∈ so) : Hist m n (oth (layF P R so) a ++ [a]) ∧ layF P R (oth (layF P R so) a ++ [a]) = layF P R so := by
  have L := (layF_good S H).1.lay
  have Ho := oth_hist L (a := a)
  have mem : ∀ x, x ∈ oth (layF P R so) a ++ [a] ↔ x ∈ so := fun x => by
    rw [List.mem_append, List.mem_singleton, oth_lay S H]
    constructor
    · rintro (z | rfl)
      · exact z.1
      · exact ha
    · intro z
      by_cases e : x = a
      · exact .inr e
      · exact .inl ⟨z, e⟩
  have nd : (oth (layF P R so) a ++ [a]).Nodup := by
    rw [List.nodup_append]
    refine ⟨Ho.nd, by simp, fun x hx y hy => ?_⟩
    rw [List.mem_singleton.mp hy]
    exact ((oth_lay S H a x).mp hx).2
  have pm : (oth (layF P R so) a ++ [a]).Perm so := (List.perm_ext_iff_of_nodup nd H.nd).mpr mem
  have H2 := H.ofPerm pm
  exact ⟨H2, layF_any S T H2 H mem⟩
end
end DL
namespace DL
open PySem PySem.Spec PyProof.Rows L2 LamX PySem.W SL
section
variable {m n : Nat} {P : List (List Int)} {R : List (List (List Int))}
end
end DL
namespace DL
open PySem PySem.Spec PyProof.Rows L2 LamX PySem.W SL
section
variable {m n : Nat} {P : List (List Int)} {R : List (List (List Int))}
end
end DL
namespace DL
open PySem PySem.Spec PyProof.Rows L2 LamX PySem.W SL
end DL
namespace DL
open PySem PySem.Spec PyProof.Rows L2 LamX PySem.W SL
end DL
namespace DL
open PySem PySem.Spec PyProof.Rows L2 LamX PySem.W SL
end DL
namespace DL
open PySem PySem.Spec PyProof.Rows L2 LamX PySem.W SL
structure Tops (m : Nat) (t : List (List Int)) (fd lf : List Nat) : Prop where
  pm : (fd ++ lf).Perm (List.range m)
  pw : fd.Pairwise (Beats t)
  all : ∀ x ∈ fd, ∀ y ∈ lf, Beats t x y
section
variable {m : Nat} {t : List (List Int)} {fd lf : List Nat}
theorem Tb.irr2 (tb : Tb m t) {a : Nat} (ha : a < m) : ¬ Beats t a a := fun z => by
  have o := tb.one a a ha ha
  unfold dec at o
  have z' : (a : Int) ∈ t.getD a [] := z
  rw [if_pos rfl, decide_eq_true z'] at o
  cases o
theorem Tops.nd (T : Tops m t fd lf) : (fd ++ lf).Nodup := T.pm.nodup_iff.mpr List.nodup_range
theorem Tops.lt (T : Tops m t fd lf) {x : Nat} (h : x ∈ fd ∨ x ∈ lf) : x < m := List.mem_range.mp (T.pm.mem_iff.mp (List.mem_append.mpr h))
theorem Tops.step (T : Tops m t fd lf) (tb : Tb m t) {x j : Nat} (hx : lf[j]? = some x) (top : ∀ y ∈ lf, ¬ Beats t y x) : Tops m t (fd ++ [x]) (lf.eraseIdx j) := by
  have lt := (List.getElem?_eq_some_iff.mp hx).1
  have ex := (List.getElem?_eq_some_iff.mp hx).2
  have xm : x ∈ lf := List.mem_of_getElem? hx
  have pe := erase_perm lf j lt
  rw [ex] at pe
  have nd := T.nd
  rw [List.nodup_append] at nd
  have ne : ∀ y ∈ lf.eraseIdx j, y ≠ x := fun y hy e => by
    have n2 := pe.nodup_iff.mpr nd.2.1
    rw [List.nodup_append] at n2
    exact n2.2.2 y hy x (by simp) e
  have sub : ∀ y ∈ lf.eraseIdx j, y ∈ lf := fun y hy => pe.mem_iff.mp (List.mem_append_left _ hy)
  refine ⟨?_, ?_, fun z hz y hy => ?_⟩
  · refine List.Perm.trans ?_ T.pm
    rw [List.append_assoc]
    exact List.Perm.append_left fd (List.perm_append_comm.trans pe)
  · rw [List.pairwise_append]
    refine ⟨T.pw, List.pairwise_singleton _ _, fun a ha b hb => ?_⟩
    rw [List.mem_singleton.mp hb]
    exact T.all a ha x xm
  · rcases List.mem_append.mp hz with w | w
    · exact T.all z w y (sub y hy)
    · rw [List.mem_singleton.mp w]
      exact (tb.dec2 (T.lt (.inr xm)) (T.lt (.inr (sub y hy))) (fun e => ne y hy e.symm)).mpr (top y (sub y hy))
theorem exists_min (f : Nat → Nat) : ∀ {l : List Nat}, l ≠ [] → ∃ x ∈ l, ∀ y ∈ l, f x ≤ f y
  | [x], _ => ⟨x, by simp, fun y hy => by rw [List.mem_singleton.mp hy]; exact Nat.le_refl _⟩
  | x :: z :: r, _ => by
    obtain ⟨w, hw, h⟩ := exists_min f (l := z :: r) (by simp)
    by_cases c : f x ≤ f w
    · refine ⟨x, by simp, fun y hy => ?_⟩
      rcases List.mem_cons.mp hy with e | e
      · rw [e]; exact Nat.le_refl _
      · exact Nat.le_trans c (h y e)
    · refine ⟨w, List.mem_cons_of_mem _ hw, fun y hy => ?_⟩
      rcases List.mem_cons.mp hy with e | e
      · rw [e]; omega
      · exact h y e
theorem Tops.top (T : Tops m t fd lf) (tb : Tb m t) (no : noRing t = true) (ne : lf ≠ []) : ∃ x ∈ lf, ∀ y ∈ lf, ¬ Beats t y x := by
  obtain ⟨x, hx, h⟩ := exists_min (fun k => pos (ordOf t) (k : Int)) ne
  refine ⟨x, hx, fun y hy b => ?_⟩
  have lx := T.lt (.inr hx)
  have ly := T.lt (.inr hy)
  by_cases e : y = x
  · subst e
    exact tb.irr2 ly b
  · have := (ordOf_pos tb no ly lx e).mpr b
    have := h y hy
    omega
theorem Tops.done (T : Tops m t fd []) (tb : Tb m t) : noRing t = true ∧ hI fd = ordOf t := by
  have pm := T.pm
  rw [List.append_nil] at pm
  have lt : ∀ x, x ∈ fd ↔ x < m := fun x => by rw [pm.mem_iff, List.mem_range]
  have bt' : ∀ (i j : Nat) (a b : Nat), fd[i]? = some a → fd[j]? = some b → i < j → Beats t a b := fun i j a b hi hj l => by
    obtain ⟨l1, e1⟩ := List.getElem?_eq_some_iff.mp hi
    obtain ⟨l2, e2⟩ := List.getElem?_eq_some_iff.mp hj
    have := List.pairwise_iff_getElem.mp T.pw i j l1 l2 l
    rw [e1, e2] at this
    exact this
  have ix : ∀ a b, a < m → b < m → Beats t a b → ∀ i j, fd[i]? = some a → fd[j]? = some b → i < j := fun a b ha hb h i j hi hj => by
    rcases Nat.lt_trichotomy i j with l | l | l
    · exact l
    · subst l
      rw [hi] at hj
      have e := Option.some.inj hj
      subst e
      exact absurd h (tb.irr2 ha)
    · have h2 := bt' j i b a hj hi l
      have ne : a ≠ b := fun e => by subst e; exact tb.irr2 ha h
      exact absurd h2 ((tb.dec2 ha hb ne).mp h)
  have no : noRing t = true := noRing_iff.mpr fun a b c rg => by
    obtain ⟨a0, a1, hb, hc, ha⟩ := rg
    have tl := tb.len
    have rb := tb.mem (x := a) a0 (by omega) hb
    have rc := tb.mem (x := b) rb.1 rb.2 hc
    obtain ⟨a', rfl⟩ : ∃ k : Nat, a = (k : Int) := ⟨a.toNat, by omega⟩
    obtain ⟨b', rfl⟩ : ∃ k : Nat, b = (k : Int) := ⟨b.toNat, by omega⟩
    obtain ⟨c', rfl⟩ : ∃ k : Nat, c = (k : Int) := ⟨c.toNat, by omega⟩
    have la : a' < m := by omega
    have lb : b' < m := by omega
    have lc : c' < m := by omega
    obtain ⟨i, hi⟩ := List.mem_iff_getElem?.mp ((lt a').mpr la)
    obtain ⟨j, hj⟩ := List.mem_iff_getElem?.mp ((lt b').mpr lb)
    obtain ⟨k, hk⟩ := List.mem_iff_getElem?.mp ((lt c').mpr lc)
    have x1 := ix a' b' la lb hb i j hi hj
    have x2 := ix b' c' lb lc hc j k hj hk
    have x3 := ix c' a' lc la ha k i hk hi
    omega
  refine ⟨no, ?_⟩
  have o1 : Ord m (hI fd) := ⟨by
    have := pm.map (fun k : Nat => (k : Int))
    exact this⟩
  refine ord_one o1 (ordOf_ord tb.len) fun a b ha hb l => ?_
  have pa := (pos_at (ns := hI fd) (x := (a : Int)) (o1.mem.mpr (by omega))).1
  have pb := (pos_at (ns := hI fd) (x := (b : Int)) (o1.mem.mpr (by omega))).1
  have g : ∀ {i c : Nat}, (hI fd)[i]? = some (c : Int) → fd[i]? = some c := fun {i c} h => by
    unfold hI at h
    rw [List.getElem?_map] at h
    obtain ⟨y, hy, e⟩ := Option.map_eq_some_iff.mp h
    rw [hy]
    congr 1
    omega
  have bb := bt' _ _ a b (g pa) (g pb) l
  have ne : a ≠ b := fun e => by subst e; exact tb.irr2 ha bb
  exact (ordOf_pos tb no ha hb ne).mpr bb
end
end DL
namespace DL
open PySem PySem.Spec PyProof.Rows L2 LamX PySem.W SL
abbrev UT (m : Nat) (rs : List (List Int)) : Prop := HalfR m (fun x y => x ≠ y) rs
theorem UT.of {m : Nat} {t : List (List Int)} (tb : Tb m t) : UT m t := by
  refine ⟨tb.len, fun x hx => (tb.asc x hx).imp fun h => by omega, fun x hx z hz => ?_, fun x y hx hy ne => ?_⟩
  · have r := tb.inr x hx z hz
    refine ⟨z.toNat, by omega, by omega, .inl fun e => ?_⟩
    have d := tb.one x x hx hx
    unfold dec at d
    rw [if_pos rfl, Bool.not_eq_true', decide_eq_false_iff_not] at d
    have ez : z = (x : Int) := by omega
    rw [ez] at hz
    exact d hz
  · have d := tb.one x y hx hy
    unfold dec at d
    rw [if_neg ne] at d
    by_cases a : (y : Int) ∈ t.getD x []
    · rw [decide_eq_true a] at d
      refine ⟨fun _ b => ?_, fun _ => a⟩
      rw [decide_eq_true b] at d
      cases d
    · rw [decide_eq_false a] at d
      refine ⟨fun b => absurd b a, fun b => ?_⟩
      rw [decide_eq_false b] at d
      cases d
theorem getD_set {rs : List (List Int)} {u a : Nat} {r : List Int} (hu : u < rs.length) : (rs.set u r).getD a [] = if a = u then r else rs.getD a [] := by
  rw [List.getD_eq_getElem?_getD, List.getElem?_set, List.getD_eq_getElem?_getD]
  by_cases e : u = a
  · rw [if_pos e, if_pos e.symm, if_pos hu]
    rfl
  · rw [if_neg e, if_neg (fun z => e z.symm)]
theorem erase_at {ns : List Int} (nd : ns.Nodup) {x : Int} {j : Nat} (hj : ixOf x ns = some j) : (ns.eraseIdx j).Nodup ∧ ∀ z, z ∈ ns.eraseIdx j ↔ z ∈ ns ∧ z ≠ x := by
  have e := (ixOf_spec hj).1
  have lt := (List.getElem?_eq_some_iff.mp e).1
  have ex := (List.getElem?_eq_some_iff.mp e).2
  have pe := erase_perm ns j lt
  rw [ex] at pe
  have nd2 := pe.nodup_iff.mpr nd
  rw [List.nodup_append] at nd2
  refine ⟨nd2.1, fun z => ?_⟩
  rw [← pe.mem_iff, List.mem_append, List.mem_singleton]
  constructor
  · exact fun h => ⟨.inl h, fun q => nd2.2.2 z h x (by simp) q⟩
  · rintro ⟨h | h, q⟩
    · exact h
    · exact absurd h q
theorem UT.turn {m : Nat} {rs : List (List Int)} (h : UT m rs) {x y j : Nat} (hx : x < m) (hy : y < m) (ne : x ≠ y) (no : ¬ (y : Int) ∈ rs.getD x []) (hj : ixOf (x : Int) (rs.getD y []) = some j) :
    UT m ((rs.set x (rs.getD x [] ++ [(y : Int)])).set y ((rs.getD y []).eraseIdx j)) ∧ (y : Int) ∈ ((rs.set x (rs.getD x [] ++ [(y : Int)])).set y ((rs.getD y []).eraseIdx j)).getD x [] ∧ ∀ a b : Nat, (b : Int) ∈ rs.getD a [] → ¬ (a = y ∧ b = x) → (b : Int) ∈ ((rs.set x (rs.getD x [] ++ [(y : Int)])).set y ((rs.getD y []).eraseIdx j)).getD a [] := by
  obtain ⟨nde, mem⟩ := erase_at (h.nd y hy) hj
  have row : ∀ a, ((rs.set x (rs.getD x [] ++ [(y : Int)])).set y ((rs.getD y []).eraseIdx j)).getD a [] = if a = y then (rs.getD y []).eraseIdx j else if a = x then rs.getD x [] ++ [(y : Int)] else rs.getD a [] := fun a => by
    rw [getD_set (by rw [List.length_set, h.len]; exact hy), getD_set (by rw [h.len]; exact hx)]
  have mm : ∀ a z, z ∈ ((rs.set x (rs.getD x [] ++ [(y : Int)])).set y ((rs.getD y []).eraseIdx j)).getD a [] ↔ (z ∈ rs.getD a [] ∧ ¬ (a = y ∧ z = (x : Int))) ∨ (a = x ∧ z = (y : Int)) := fun a z => by
    rw [row]
    by_cases ay : a = y
    · subst ay
      rw [if_pos rfl, mem]
      constructor
      · exact fun ⟨q, w⟩ => .inl ⟨q, fun v => w v.2⟩
      · rintro (⟨q, w⟩ | ⟨q, _⟩)
        · exact ⟨q, fun v => w ⟨rfl, v⟩⟩
        · exact absurd q.symm ne
    · rw [if_neg ay]
      by_cases ax : a = x
      · subst ax
        rw [if_pos rfl, List.mem_append, List.mem_singleton]
        constructor
        · rintro (q | q)
          · exact .inl ⟨q, fun v => ay v.1⟩
          · exact .inr ⟨rfl, q⟩
        · rintro (⟨q, _⟩ | ⟨_, q⟩)
          · exact .inl q
          · exact .inr q
      · rw [if_neg ax]
        constructor
        · exact fun q => .inl ⟨q, fun v => ay v.1⟩
        · rintro (⟨q, _⟩ | ⟨q, _⟩)
          · exact q
          · exact absurd q ax
  refine ⟨⟨by rw [List.length_set, List.length_set, h.len], fun a ha => ?_, fun a ha z hz => ?_, fun a b ha hb nab => ?_⟩, (mm x _).mpr (.inr ⟨rfl, rfl⟩), fun a b q w => (mm a _).mpr (.inl ⟨q, fun v => w ⟨v.1, by omega⟩⟩)⟩
  · rw [row]
    by_cases ay : a = y
    · rw [if_pos ay]
      exact nde
    · rw [if_neg ay]
      by_cases ax : a = x
      · rw [if_pos ax, List.nodup_append]
        refine ⟨h.nd x hx, by simp, fun u hu v hv e => ?_⟩
        rw [List.mem_singleton.mp hv] at e
        rw [e] at hu
        exact no hu
      · rw [if_neg ax]
        exact h.nd a ha
  · rcases (mm a z).mp hz with ⟨q, _⟩ | ⟨q, w⟩
    · exact h.inr a ha z q
    · exact ⟨y, hy, w, .inl (by show a ≠ y; omega)⟩
  · have o := h.one a b ha hb nab
    have oxy := h.one x y hx hy ne
    rw [mm, mm]
    constructor
    · rintro (⟨q, w⟩ | ⟨q, w⟩)
      · rintro (⟨q2, w2⟩ | ⟨q2, w2⟩)
        · exact (o.mp q) q2
        · exact w ⟨by omega, by omega⟩
      · rintro (⟨q2, w2⟩ | ⟨q2, w2⟩)
        · exact w2 ⟨by omega, by omega⟩
        · omega
    · intro q
      by_cases s : a = x ∧ b = y
      · exact .inr ⟨s.1, by omega⟩
      · refine .inl ⟨?_, fun w => ?_⟩
        · apply Classical.byContradiction
          intro c
          have c2 : (a : Int) ∈ rs.getD b [] := Classical.byContradiction fun z => c (o.mpr z)
          exact q (.inl ⟨c2, fun w => s ⟨by omega, w.1⟩⟩)
        · exact q (.inr ⟨by omega, by omega⟩)
def prs : List (Nat × Nat) := [(0, 1), (1, 2), (2, 0)]
def Turned (left : List (Nat × Nat)) (rs : List (List Int)) : Prop := ∃ dn, dn ++ left = prs ∧ ∀ q ∈ dn, ((q.2 : Nat) : Int) ∈ rs.getD q.1 []
theorem Turned.keep {x y : Nat} {left : List (Nat × Nat)} {rs : List (List Int)} (t : Turned ((x, y) :: left) rs) (h : (y : Int) ∈ rs.getD x []) : Turned left rs := by
  obtain ⟨dn, e, all⟩ := t
  refine ⟨dn ++ [(x, y)], by rw [List.append_assoc]; exact e, fun q hq => ?_⟩
  rcases List.mem_append.mp hq with z | z
  · exact all q z
  · rw [List.mem_singleton.mp z]
    exact h
theorem Turned.step {x y : Nat} {left : List (Nat × Nat)} {rs rs2 : List (List Int)} (t : Turned ((x, y) :: left) rs) (h : (y : Int) ∈ rs2.getD x []) (k : ∀ a b : Nat, (b : Int) ∈ rs.getD a [] → ¬ (a = y ∧ b = x) → (b : Int) ∈ rs2.getD a []) : Turned left rs2 := by
  obtain ⟨dn, e, all⟩ := t
  refine ⟨dn ++ [(x, y)], by rw [List.append_assoc]; exact e, fun q hq => ?_⟩
  rcases List.mem_append.mp hq with z | z
  · refine k _ _ (all q z) fun w => ?_
    have m1 : (x, y) ∈ prs := by rw [← e]; simp
    have m2 : q ∈ prs := by rw [← e]; exact List.mem_append_left _ z
    have : q = (y, x) := Prod.ext w.1 w.2
    subst this
    simp only [prs, List.mem_cons, List.not_mem_nil, or_false, Prod.mk.injEq] at m1 m2
    omega
  · rw [List.mem_singleton.mp z]
    exact h
theorem Turned.pair {x y : Nat} {left : List (Nat × Nat)} {rs : List (List Int)} (t : Turned ((x, y) :: left) rs) : x < 3 ∧ y < 3 ∧ x ≠ y := by
  obtain ⟨dn, e, _⟩ := t
  have m1 : (x, y) ∈ prs := by rw [← e]; simp
  simp only [prs, List.mem_cons, List.not_mem_nil, or_false, Prod.mk.injEq] at m1
  omega
end DL
namespace DL
open PySem PySem.Spec PyProof.Rows L2 LamX PySem.W SL
end DL
namespace DL
open PySem PySem.Spec PyProof.Rows L2 LamX PySem.W SL
end DL
set_option maxHeartbeats 2000000
namespace SL
open PySem PySem.Spec PyProof.Rows L2
theorem type_kw {M : Model} {A : Around} {E : Value → Shared → Prop} {s : Shared} {env : Env} {pos : Pos} {T : String} {e : Expr} {rest : List Expr} {kws : List Keyword} {Q : Value → Shared → Prop}
    (h : wpAny M A (spliced (backTo pos (starEach (e :: rest) env))) (fun vs s₁ => wpAny M A (evalAll ((backToKw pos (keywordEach kws env)).map (·.2)))
      (fun kvs s₂ => wpAny M A (call (.type T) vs (((backToKw pos (keywordEach kws env)).filterMap (·.1)).zip kvs)) Q E s₂) E s₁) E s)
    (he : backTo pos (starEach (e :: rest) env) = (false, eval e env) :: backTo pos (starEach rest env) := by rfl)
    (hplain : (backTo pos (starEach (e :: rest) env)).any (·.1) = false := by rfl)
    (hall : (backToKw pos (keywordEach kws env)).all (·.1.isSome) = true := by rfl)
    (hkw : (backToKw pos (keywordEach kws env)).any (·.1.isNone) = false := by rfl) :
    wpAny M A (callWith pos (.type T) [] (backTo pos (starEach (e :: rest) env)) (backToKw pos (keywordEach kws env))) Q E s := by
  have h2 : wpAny M A (evalArgs (.type T) true (backTo pos (starEach (e :: rest) env)) (backToKw pos (keywordEach kws env))) (fun a s₁ => wpAny M A (call (.type T) ([] ++ a.pos) a.kw) Q E s₁) E s := by
    rw [he] at h ⊢
    exact evalArgs_kwB hall h
  unfold callWith
  refine wpAny_bind (wpAny_holding (wpAny_mono h2 (fun a s₁ h₁ => wpAny_bind (wpAny_standAt ?_)) fun _ _ x => x))
  simp only [hplain, hkw, Bool.or_false]
  refine wpAny_bind (wpAny_pure ?_)
  exact wpAny_bind (wpAny_mono h₁ (fun r s₂ hr => wpAny_bind (wpAny_holding (wpAny_point (wpAny_pure hr)))) fun _ _ x => x)
def IteK (K : PySem.W.Frag) (a : Addr) (k : Nat) : It :=
  ⟨fun i H => ∃ (xs : List V) (x : V), SqT K H a xs ∧ xs[i]? = some x, fun i H v H' => ∃ T x, v = .ref T ∧ H T = none ∧ H' = upd H T (.tup [.int ((i + k : Nat) : Int), x]) ∧ ∀ xs, SqT K H a xs → xs[i]? = some x,
    fun i H => ∃ xs : List V, SqT K H a xs ∧ xs.length = i⟩
theorem turn_enumK {P : Program} {w : World} {K : PySem.W.Frag} {elts : List Expr} {kk : Nat} {tpos : Pos} (a e it : Addr) (k : Nat) :
    Turn P w K (.Tuple elts kk tpos) (IteK K a k) [e, it] e (fun i h => (∃ old, IsEnum h e it ((i + k : Nat) : Int) old) ∧ h.IsTupleIter it a i ∧ e ≠ it ∧ a ≠ it ∧ a ≠ e) where
  mem := by simp
  obj := by
    rintro i h ⟨⟨old, he⟩, ⟨o, ho, hc, hd⟩, _⟩ b hb
    have cs : b = e ∨ b = it := by simpa using hb
    rcases cs with z | z
    · rw [z]
      exact ⟨_, he, fun v q => nomatch q⟩
    · rw [z]
      exact ⟨o, ho, fun v q => by rw [hd] at q; cases q⟩
  keep := by
    rintro i h h' ⟨⟨old, he⟩, hi, r⟩ k
    exact ⟨⟨old, k e (by simp) _ he⟩, hi.at fun o q => k it (by simp) o q, r⟩
  item := by
    rintro X rfl rfl rfl calm i pins s σ H E I hf ⟨⟨old, he⟩, hit, hne, ai, ae⟩ ⟨xs, x, hq, hx⟩
    obtain ⟨its, rv, ht, hz⟩ := I.tuple hq
    obtain ⟨u, hu, ru⟩ := rv.get hx
    have hel : e < s.heap.objs.size := Heap.lt_size he
    have hil : it < s.heap.objs.size := by
      obtain ⟨_, q, _⟩ := hit
      exact Heap.lt_size q
    have li : i < its.toArray.size := by
      rw [List.size_toArray]
      exact (List.getElem?_eq_some_iff.mp hu).1
    have dr := Draws.tuple (prog := X.prog) (w := X.w) (A := X.A.in1) (show X.A.in1.handled = none from I.ok.hd calm) it a ai its.toArray
    refine wpAny_pyNext_enum_itemC dr he ⟨hit, ht⟩ li hne (by simp [hne, Ne.symm ae]) fun y h' tk hy ho st' hT hsz hk => ?_
    have ey : y = u := by
      have z : its[i]? = some y := by simpa using hy
      rw [hu] at z
      exact (Option.some.inj z).symm
    subst ey
    refine ⟨_, rfl, wpAny_letOwnedTupleGo_enum (s := { s with heap := h', toks := tk + 1 }) ho fun h'' he' sb => ?_⟩
    have hT2 : h''.get? s.heap.objs.size = some { cls := .type "tuple", data := .seq #[.int ((i + k : Nat) : Int) tk, y] } := (sb.2 _ (Nat.ne_of_gt hel)).trans hT
    have fresh : ObjOk X.prog X.w (upd H s.heap.objs.size (.tup [.int ((i + k : Nat) : Int), x])) h'' s.heap.objs.size (.tup [.int ((i + k : Nat) : Int), x]) :=
      ⟨by show 2 ≤ sizeLine; decide, [.int ((i + k : Nat) : Int) tk, y], .cons ⟨_, rfl⟩ (.cons ru .nil), ⟨_, hT2, rfl, _, rfl⟩⟩
    have I1 : Inv X pins σ (upd H s.heap.objs.size (.tup [.int ((i + k : Nat) : Int), x])) { s with heap := h'', toks := tk + 1 } :=
      I.turnedNew (ch := [e, it]) (fun b ob hb q => (sb.2 b (fun z => hb (by simp [z]))).trans (hk b ob (fun z => hb (by simp [z])) (fun z => hb (by simp [z])) q)) hf (Nat.le_refl _) fresh
    refine ⟨.ref s.heap.objs.size, _, I1, rfl, ⟨_, x, rfl, I.hok.fresh (Nat.le_refl _), rfl, fun ys hy => by rw [I.tuple_inj hy hq]; exact hx⟩, ⟨⟨y, ?_⟩, st'.1.at fun o q => (sb.2 it (Ne.symm hne)).trans q, hne, ai, ae⟩, fun b hb => ?_⟩
    · rw [show ((i + 1 + k : Nat) : Int) = ((i + k : Nat) : Int) + 1 by omega]
      exact he'
    · have hb' : b < s.heap.objs.size := by
        have cs : b = e ∨ b = it := by simpa using hb
        rcases cs with z | z
        · rw [z]
          exact hel
        · rw [z]
          exact hil
      rw [upd_ne (Nat.ne_of_lt hb')]
      exact (hf b hb).1
  done := by
    rintro X rfl rfl rfl calm i pins s σ H E I hf ⟨⟨old, he⟩, hit, hne, ai, ae⟩ ⟨xs, hq, hx⟩
    obtain ⟨its, rv, ht, hz⟩ := I.tuple hq
    obtain ⟨f0, f1, f2, f3, f4, f5⟩ := hf it (by simp)
    have si : its.toArray.size = i := by rw [List.size_toArray, ← rv.length]; exact hx
    have dr := Draws.tuple (prog := X.prog) (w := X.w) (A := X.A.in1) (show X.A.in1.handled = none from I.ok.hd calm) it a ai its.toArray
    exact wpAny_pyNext_enum_endD dr he ⟨by rw [si]; exact hit, ht⟩ fun h' eb => ⟨rfl, I.turned (t' := s.toks) (fun b o hb q => eb b o hb q) f0 f1 f3 f4 f5⟩
  self := fun A i s Q E st h => let ⟨⟨_, he⟩, _⟩ := st; wpAny_pyIter_enum he h
def iEnumK (K : PySem.W.Frag) (k : Nat) (ta : TA) : TI := fun σ H R => ta σ H fun vs H1 => ∃ a, vs = [.ref a] ∧ (∃ xs, SqT K H1 a xs) ∧ R (IteK K a k) H1
theorem pi_enumK {X : Cx} {e : Expr} {ta : TA} {k : Nat} {j0 : Nat} {p pos tpos kp cp : Pos} {elts : List Expr} {kk : Nat} (k9 : (k : Int) < 2 ^ 63) (g1 : Gl X "enumerate") (m1 : X.mg "enumerate" = none) (ha : PA X [e] ta) (one : starEach [e] X.env = [(false, eval e X.env)] := by rfl) :
    PI X (.Tuple elts kk tpos) (.Call (.Name "enumerate" p) [e] [⟨some "start", .Constant (.int (k : Nat)) j0 cp, kp⟩] pos) (iEnumK X.K k ta) := by
  constructor
  intro pins s σ H R I h
  refine wpAny_Call_Name_kw (ld_blt I g1 m1 boot_enumerate (type_kw (thn (ha.run pos pins s σ H _ I h) ?_) (by rw [one]; rfl) (by rw [one]; rfl)))
  rintro us s1 ⟨vs, H1, I1, r1, a, rfl, ⟨xs, hq⟩, q⟩
  refine kws_cons (thn ((pe_int (i := (k : Int)) (j := j0) (pos := cp)).run pins s1 σ H1 (fun v H2 => v = .int (k : Int) ∧ H2 = H1) I1 ⟨rfl, rfl⟩) ?_)
  rintro u s2 ⟨v, H2, I2, rv2, rfl, rfl⟩
  obtain ⟨tk, rfl⟩ := rv2
  refine kws_nil ?_
  cases r1 with
  | cons r rr =>
    cases rr
    cases r
    obtain ⟨its, rv, ht, hz⟩ := I2.tuple hq
    have ht' : s2.heap.IsTuple a its.toArray := ht
    have al : a < s2.heap.objs.size := by obtain ⟨_, e, _⟩ := ht'; exact Heap.lt_size e
    refine enum_begins_start (begins_tuple a its.toArray) ht' (by omega) k9 fun h' he hit hsz kept => wpAny_pyIter_enum he ?_
    have I3 : Inv X pins σ H2 { s2 with heap := h' } := I2.kept (t' := s2.toks) kept
    refine ⟨s2.heap.objs.size + 1, [s2.heap.objs.size + 1, s2.heap.objs.size], _, _, H2, rfl, I3, turn_enumK a (s2.heap.objs.size + 1) s2.heap.objs.size k, ⟨⟨.none, by rw [Nat.zero_add]; exact he⟩, ⟨_, hit, rfl, rfl⟩, Nat.succ_ne_self _, Nat.ne_of_lt al, Nat.ne_of_lt (Nat.lt_succ_of_lt al)⟩, fun b hb => ?_, q⟩
    have cs : b = s2.heap.objs.size + 1 ∨ b = s2.heap.objs.size := by simpa using hb
    have hle : s2.heap.objs.size ≤ b := by
      rcases cs with z | z
      · rw [z]
        exact Nat.le_succ _
      · rw [z]
        exact Nat.le_refl _
    exact I2.fpOk hle (I2.hok.fresh hle)
end SL
namespace DL
open PySem PySem.Spec PyProof.Rows L2 LamX PySem.W SL RZ
def enumDK (k : Nat) (xs : List D) : List D := xs.zipIdx.map fun p => D.tuk [.int ((p.2 + k : Nat) : Int), p.1]
theorem enumDK_get {k : Nat} {xs : List D} {i : Nat} {d : D} (h : (enumDK k xs)[i]? = some d) : ∃ x, xs[i]? = some x ∧ d = .tuk [.int ((i + k : Nat) : Int), x] := by
  unfold enumDK at h
  rw [List.getElem?_map, List.getElem?_zipIdx] at h
  cases q : xs[i]? with
  | none => rw [q] at h; cases h
  | some x => rw [q] at h; cases h; exact ⟨x, rfl, by rw [Nat.zero_add]⟩
theorem enumDK_length (k : Nat) (xs : List D) : (enumDK k xs).length = xs.length := by unfold enumDK; rw [List.length_map, List.length_zipIdx]
def wEnumK (k : Nat) (fs : DTA) : DTI := fun r st R => fs r st fun ds st1 => on1 ds fun x => onO (itT x) fun I => R ⟨enumDK k I.items, none⟩ st1
section
variable {T : List (Addr × Str)} {K : Frag} {M : Pl} {H : Hp} {st : DSt} {I : DIt} {a : Addr}
theorem IsT.enumK (k : Nat) (e0 : I.src = none) (h : IsT T K M H I a) : ItOk T K M H (IteK K a k) ⟨enumDK k I.items, none⟩ := by
  refine ⟨fun M' H' st' l s ok i d e => ?_, fun M' H' st' l s ok => ?_⟩
  · obtain ⟨xs, r, q⟩ := h M' H' st' l s (.inl e0)
    obtain ⟨x, e1, rfl⟩ := enumDK_get e
    obtain ⟨v, e2, rv⟩ := r.get e1
    refine ⟨⟨xs, v, q, e2⟩, fun y H'' z => ?_⟩
    obtain ⟨p, w, rfl, np, rfl, z⟩ := z
    have zz := z xs q
    rw [e2] at zz
    cases zz
    have g : Grow M' H' M' (upd H' p (.tup [.int ((i + k : Nat) : Int), v])) := Grow.new s.hid np
    exact ⟨g, s.new np, .tuk (s.notin np) upd_same (.cons (.int _) (.cons (rv.grow g) .nil))⟩
  · obtain ⟨xs, r, q⟩ := h M' H' st' l s (.inl e0)
    exact ⟨xs, q, by rw [enumDK_length, r.length]⟩
end
section
variable {T : List (Addr × Str)} {X : Cx} {e : Expr} {fs : DTA} {j0 : Nat} {p pos tpos kp cp : Pos} {elts : List Expr} {kk k : Nat}
theorem di_enumK (k9 : (k : Int) < 2 ^ 63) (hg : Gl X "enumerate") (hm : X.mg "enumerate" = none) (ha : DA T X [e] fs) (hs : starEach [e] X.env = [(false, eval e X.env)] := by rfl) : DI T X (.Tuple elts kk tpos) (.Call (.Name "enumerate" p) [e] [⟨some "start", .Constant (.int (k : Nat)) j0 cp, kp⟩] pos) (wEnumK k fs) :=
  PI.imp (pi_enumK k9 hg hm ha hs) fun σ H R ⟨M, r, st, R', s, re, h, kn⟩ => ⟨M, r, st, _, s, re, h, fun M1 H1 st1 ds vs g1 s1 r1 q => by
    obtain ⟨x, rfl, q1⟩ := on1.of q
    obtain ⟨I, e, q2⟩ := onO.of q1
    obtain ⟨v, rfl, rv⟩ := r1.one
    obtain ⟨a, rfl, is, e0⟩ := itT.is (T := T) rv e
    obtain ⟨xs, _, sq⟩ := is M1 H1 st1 (Later.refl _ _) s1 (.inl e0)
    exact ⟨a, rfl, ⟨xs, sq⟩, kn M1 H1 st1 _ _ g1 s1 q2 (is.enumK k e0)⟩⟩
theorem e_wEK {k : Nat} {fs : DTA} {r : DEnv} {st : DSt} {R : DIt → DSt → Prop} : wEnumK k fs r st R = fs r st fun ds st1 => on1 ds fun x => onO (itT x) fun I => R ⟨enumDK k I.items, none⟩ st1 := rfl
end
end DL
namespace DL
open PySem PySem.Spec PyProof.Rows L2 LamX PySem.W SL
def F_look_up (g_require_ordered : DRs) : DTS := (sSeq (sDrop (dCB g_require_ordered (daCons (dVar 1) daNil))) (sSeq (sFor (wEnumK 1 (daCons (dOp dIx (dVar 0) (dVar 3)) daNil)) (gTp 2 (gsCons (gNm 4) (gsCons (gNm 5) gsNil))) (sSeq (sIf (dTest (dOp dEq (dOp dIx (dVar 2) (dVar 5)) (dVar 3))) (sRet (dTup (daCons (dVar 5) (daCons (dVar 4) daNil)))) sNext) (sIf (dtOr (dTest (dOp dEq (dOp dIx (dVar 2) (dVar 5)) (dC (.int (-1))))) (dTest (dOp dIn (dOp dIx (dVar 2) (dVar 5)) (dOp dIx (dOp dIx (dVar 1) (dVar 5)) (dVar 3))))) (sRet (dTup (daCons (dC (.int (-1))) (daCons (dVar 4) daNil)))) sNext))) (sRet (dTup (daCons (dC (.int (-1))) (daCons (dCB dLen (daCons (dVar 2) daNil)) daNil))))))
end DL
namespace DL
open PySem PySem.Spec PyProof.Rows L2 LamX PySem.W SL
section
variable {m n : Nat} {P : List (List Int)} {R : List (List (List Int))} {sl : List Int}
def seekF (P : List (List Int)) (R : List (List (List Int))) (sl : List Int) (n a : Nat) : Nat → Nat → Int × Nat
  | 0, _ => (-1, n)
  | f + 1, i => if sl.getD (pr P a i) 0 = (a : Int) then ((pr P a i : Nat), i + 1) else if sl.getD (pr P a i) 0 = -1 ∨ sl.getD (pr P a i) 0 ∈ (R.getD (pr P a i) []).getD a [] then (-1, i + 1) else seekF P R sl n a f (i + 1)
theorem seek_yes {a : Nat} (S : Setg m n P R) (ha : a < m) (g : Good m n P sl) (st : Stb P R sl) {s : Nat} (h : At sl s a) : ∀ f i, i + f = n → i ≤ rk P a s → seekF P R sl n a f i = ((s : Int), rk P a s + 1)
  | 0, i, e, le => by
    have := (S.rk_at ha (g.lay.key h).2).2.1
    omega
  | f + 1, i, e, le => by
    have hs := (g.lay.key h).2
    unfold seekF
    by_cases c : i = rk P a s
    · subst c
      rw [S.pr_rk ha hs]
      have e2 : sl.getD s 0 = (a : Int) := by unfold At at h; rw [List.getD_eq_getElem?_getD, h]; rfl
      rw [if_pos e2]
    · have il : i < rk P a s := by omega
      obtain ⟨k', hk'⟩ := g.ah s a h i il
      have b := st s a h i il k' hk'
      have e2 : sl.getD (pr P a i) 0 = (k' : Int) := by unfold At at hk'; rw [List.getD_eq_getElem?_getD, hk']; rfl
      have kk := g.lay.key hk'
      have nk : k' ≠ a := fun z => by
        subst z
        have := g.lay.inj _ _ _ hk' h
        have q := S.rk_pr (i := i) ha (by omega)
        rw [this] at q
        omega
      rw [e2, if_neg (by omega), if_neg, seek_yes S ha g st h f (i + 1) (by omega) (by omega)]
      rintro (z | z)
      · omega
      · have w : bt R (pr P a i) a k' = true := by unfold bt; exact decide_eq_true z
        have v := S.bt_not kk.2 kk.1 ha nk
        rw [b, w] at v
        cases v
end
theorem enumK_drop {k : Nat} {xs : List Int} {i : Nat} {d : D} {ds : List D} (h : d :: ds = (enumDK k (xs.map D.int)).drop i) : i < xs.length ∧ d = .tuk [.int ((i + k : Nat) : Int), .int (xs.getD i 0)] ∧ ds = (enumDK k (xs.map D.int)).drop (i + 1) := by
  obtain ⟨e, lt, e2⟩ := drop_cons h.symm
  obtain ⟨x, ex, rfl⟩ := enumDK_get e
  rw [List.getElem?_map] at ex
  obtain ⟨y, ey, rfl⟩ := Option.map_eq_some_iff.mp ex
  refine ⟨(List.getElem?_eq_some_iff.mp ey).1, ?_, e2.symm⟩
  rw [List.getD_eq_getElem?_getD, ey]
  rfl
theorem enumK_end {k : Nat} {xs : List Int} {i : Nat} (h : [] = (enumDK k (xs.map D.int)).drop i) : xs.length ≤ i := by
  have := List.drop_eq_nil_iff.mp h.symm
  rw [enumDK_length, List.length_map] at this
  exact this
def foundD (p : Int × Nat) : D := .tup [.int p.1, .int (p.2 : Nat)]
def g_look : DRs := fun ds st Q => ∃ (m n : Nat) (P : List (List Int)) (R : List (List (List Int))) (sl : List Int) (a : Nat), ds = [rowsD P, tabsD R, rowD sl, .int (a : Nat)] ∧ Setg m n P R ∧ (∀ t ∈ R, noRing t = true) ∧ m ≤ 60 ∧ n ≤ 60 ∧ Lay m n sl ∧ a < m ∧ Q (foundD (seekF P R sl n a n 0)) st
theorem ar_look (ds : List D) (st : DSt) (Q : DK) (h : g_look ds st Q) : ds.length = 4 := by
  obtain ⟨_, _, _, _, _, _, rfl, _⟩ := h
  rfl
set_option maxHeartbeats 2000000 in
theorem sem_look (ds : List D) (st : DSt) (Q : DK) (h : g_look ds st Q) : F_look_up g_reqO { nx := fun _ st' => Rt st Q .non st', rt := Rt st Q } (startD 6 ds) st := by
  obtain ⟨m, n, P, R, sl, a, rfl, S, all, m60, n60, L, ha, q⟩ := h
  have st6 : startD 6 [rowsD P, tabsD R, rowD sl, D.int (a : Nat)] = [some (.tup (P.map rowD)), some (.tup (R.map rowsD)), some (.tup (sl.map D.int)), some (.int (a : Nat)), none, none] := rfl
  have hR : D.tup (R.map rowsD) = tabsD R := rfl
  simp only [F_look_up, st6]
  try dsimp only
  rw [e_seq]
  try simp only [e_var, e_C, e_op, e_neg, e_isN, e_notN, e_and, e_or, e_not, e_test, e_tAnd, e_tOr, e_tNot, e_tYes, e_if, e_aNil, e_aCons, e_tup, e_lst, e_lstN, e_len0, e_len1, e_len2, e_len3, e_len4, e_len5, e_cb, e_on1, e_on2, e_onI, e_onB, e_onO, e_onO0, e_onOO, e_I0, e_I, e_add, e_addT, e_addS, e_addL, e_addLR, e_addRL, e_addRR, e_mul, e_mulL, e_mulT, e_rev, e_revT, e_ix, e_eqI, e_eqS, e_eqB, e_neI, e_neS, e_neB, e_ltI, e_chain, e_len, e_abs, e_2I, e_tuple1, e_tuple2, e_tuple3, e_listT, e_listN, e_allR, e_seqT, e_seqK, e_seqL, e_isi, e_isB, e_notB, e_truth, e_next, e_drop, e_ret, e_retN, e_ifS, e_set, e_asg, e_par, e_nm, e_gsN, e_gsC, e_gTpK, e_gTpL, e_sum, e_maxL, e_minL, e_maxDef, e_int, e_intB, e_aug, e_on3, e_par3, e_newK, e_getK, e_keyI, e_keyS, e_inK, e_ninK, e_putK, e_lenK, e_lstS, e_seqX, e_gTpT, e_oN, e_oS, e_sl, e_slT, e_slL, e_finT, e_finN, e_index, e_idxT, e_idxL, e_mIx, e_ixST, e_ixSL, e_mtL, e_w, e_w1, e_w2, e_wE, e_wZ, e_itK, e_itT, e_itL, e_itT2, e_itL2, e_lc, e_for, e_wipe0, e_wipe, e_okI, e_okR, e_gSb, List.getElem?_cons_zero, List.getElem?_cons_succ, List.set_cons_zero, List.set_cons_succ]
  rw [hR]
  refine ⟨m, R, rfl, by rw [S.rl]; omega, m60, fun t ht => ⟨S.rt t ht, all t ht⟩, ?_⟩
  rw [← hR]
  try simp only [e_var, e_C, e_op, e_neg, e_isN, e_notN, e_and, e_or, e_not, e_test, e_tAnd, e_tOr, e_tNot, e_tYes, e_if, e_aNil, e_aCons, e_tup, e_lst, e_lstN, e_len0, e_len1, e_len2, e_len3, e_len4, e_len5, e_cb, e_on1, e_on2, e_onI, e_onB, e_onO, e_onO0, e_onOO, e_I0, e_I, e_add, e_addT, e_addS, e_addL, e_addLR, e_addRL, e_addRR, e_mul, e_mulL, e_mulT, e_rev, e_revT, e_ix, e_eqI, e_eqS, e_eqB, e_neI, e_neS, e_neB, e_ltI, e_chain, e_len, e_abs, e_2I, e_tuple1, e_tuple2, e_tuple3, e_listT, e_listN, e_allR, e_seqT, e_seqK, e_seqL, e_isi, e_isB, e_notB, e_truth, e_next, e_drop, e_ret, e_retN, e_ifS, e_set, e_asg, e_par, e_nm, e_gsN, e_gsC, e_gTpK, e_gTpL, e_sum, e_maxL, e_minL, e_maxDef, e_int, e_intB, e_aug, e_on3, e_par3, e_newK, e_getK, e_keyI, e_keyS, e_inK, e_ninK, e_putK, e_lenK, e_lstS, e_seqX, e_gTpT, e_oN, e_oS, e_sl, e_slT, e_slL, e_finT, e_finN, e_index, e_idxT, e_idxL, e_mIx, e_ixST, e_ixSL, e_mtL, e_w, e_w1, e_w2, e_wE, e_wZ, e_itK, e_itT, e_itL, e_itT2, e_itL2, e_lc, e_for, e_wipe0, e_wipe, e_okI, e_okR, e_gSb, List.getElem?_cons_zero, List.getElem?_cons_succ, List.set_cons_zero, List.set_cons_succ]
  try dsimp only
  rw [e_seq]
  try simp only [e_var, e_C, e_op, e_neg, e_isN, e_notN, e_and, e_or, e_not, e_test, e_tAnd, e_tOr, e_tNot, e_tYes, e_if, e_aNil, e_aCons, e_tup, e_lst, e_lstN, e_len0, e_len1, e_len2, e_len3, e_len4, e_len5, e_cb, e_on1, e_on2, e_onI, e_onB, e_onO, e_onO0, e_onOO, e_I0, e_I, e_add, e_addT, e_addS, e_addL, e_addLR, e_addRL, e_addRR, e_mul, e_mulL, e_mulT, e_rev, e_revT, e_ix, e_eqI, e_eqS, e_eqB, e_neI, e_neS, e_neB, e_ltI, e_chain, e_len, e_abs, e_2I, e_tuple1, e_tuple2, e_tuple3, e_listT, e_listN, e_allR, e_seqT, e_seqK, e_seqL, e_isi, e_isB, e_notB, e_truth, e_next, e_drop, e_ret, e_retN, e_ifS, e_set, e_asg, e_par, e_nm, e_gsN, e_gsC, e_gTpK, e_gTpL, e_sum, e_maxL, e_minL, e_maxDef, e_int, e_intB, e_aug, e_on3, e_par3, e_newK, e_getK, e_keyI, e_keyS, e_inK, e_ninK, e_putK, e_lenK, e_lstS, e_seqX, e_gTpT, e_oN, e_oS, e_sl, e_slT, e_slL, e_finT, e_finN, e_index, e_idxT, e_idxL, e_mIx, e_ixST, e_ixSL, e_mtL, e_w, e_w1, e_w2, e_wE, e_wZ, e_itK, e_itT, e_itL, e_itT2, e_itL2, e_lc, e_for, e_wipe0, e_wipe, e_okI, e_okR, e_gSb, List.getElem?_cons_zero, List.getElem?_cons_succ, List.set_cons_zero, List.set_cons_succ, e_wEK, S.p_at ha]
  have lo := (S.ord ha).len
  have q' : Rt st Q (foundD (seekF P R sl n a (n - 0) 0)) st := .inl q
  refine for_inv (fun left r st' => ∃ (i : Nat) (x4 x5 : Option D), left = (enumDK 1 ((P.getD a []).map D.int)).drop i ∧ i ≤ n ∧ r = [some (.tup (P.map rowD)), some (.tup (R.map rowsD)), some (.tup (sl.map D.int)), some (.int (a : Nat)), x4, x5] ∧ st = st' ∧ Rt st Q (foundD (seekF P R sl n a (n - i) i)) st') ?_ ?_ _ _ _ ⟨0, _, _, rfl, Nat.zero_le _, rfl, rfl, q'⟩
  · rintro d left r st' N hN ⟨i, x4, x5, e, le, rfl, rfl, q⟩
    obtain ⟨li, rfl, rfl⟩ := enumK_drop e
    have hi : i < n := by omega
    obtain ⟨ep, hp⟩ := S.pr_at ha hi
    have ex : (P.getD a []).getD i 0 = ((pr P a i : Nat) : Int) := by rw [List.getD_eq_getElem?_getD, ep]; rfl
    rw [ex]
    rw [show n - i = (n - (i + 1)) + 1 by omega] at q
    unfold seekF at q
    have rs : atI (sl.map D.int) ((pr P a i : Nat) : Int) = some (.int (sl.getD (pr P a i) 0)) := row_at (by rw [L.len]; exact hp)
    try simp only [e_var, e_C, e_op, e_neg, e_isN, e_notN, e_and, e_or, e_not, e_test, e_tAnd, e_tOr, e_tNot, e_tYes, e_if, e_aNil, e_aCons, e_tup, e_lst, e_lstN, e_len0, e_len1, e_len2, e_len3, e_len4, e_len5, e_cb, e_on1, e_on2, e_onI, e_onB, e_onO, e_onO0, e_onOO, e_I0, e_I, e_add, e_addT, e_addS, e_addL, e_addLR, e_addRL, e_addRR, e_mul, e_mulL, e_mulT, e_rev, e_revT, e_ix, e_eqI, e_eqS, e_eqB, e_neI, e_neS, e_neB, e_ltI, e_chain, e_len, e_abs, e_2I, e_tuple1, e_tuple2, e_tuple3, e_listT, e_listN, e_allR, e_seqT, e_seqK, e_seqL, e_isi, e_isB, e_notB, e_truth, e_next, e_drop, e_ret, e_retN, e_ifS, e_set, e_asg, e_par, e_nm, e_gsN, e_gsC, e_gTpK, e_gTpL, e_sum, e_maxL, e_minL, e_maxDef, e_int, e_intB, e_aug, e_on3, e_par3, e_newK, e_getK, e_keyI, e_keyS, e_inK, e_ninK, e_putK, e_lenK, e_lstS, e_seqX, e_gTpT, e_oN, e_oS, e_sl, e_slT, e_slL, e_finT, e_finN, e_index, e_idxT, e_idxL, e_mIx, e_ixST, e_ixSL, e_mtL, e_w, e_w1, e_w2, e_wE, e_wZ, e_itK, e_itT, e_itL, e_itT2, e_itL2, e_lc, e_for, e_wipe0, e_wipe, e_okI, e_okR, e_gSb, List.getElem?_cons_zero, List.getElem?_cons_succ, List.set_cons_zero, List.set_cons_succ]
    refine ⟨rfl, ?_⟩
    try dsimp only
    rw [e_seq]
    try simp only [e_var, e_C, e_op, e_neg, e_isN, e_notN, e_and, e_or, e_not, e_test, e_tAnd, e_tOr, e_tNot, e_tYes, e_if, e_aNil, e_aCons, e_tup, e_lst, e_lstN, e_len0, e_len1, e_len2, e_len3, e_len4, e_len5, e_cb, e_on1, e_on2, e_onI, e_onB, e_onO, e_onO0, e_onOO, e_I0, e_I, e_add, e_addT, e_addS, e_addL, e_addLR, e_addRL, e_addRR, e_mul, e_mulL, e_mulT, e_rev, e_revT, e_ix, e_eqI, e_eqS, e_eqB, e_neI, e_neS, e_neB, e_ltI, e_chain, e_len, e_abs, e_2I, e_tuple1, e_tuple2, e_tuple3, e_listT, e_listN, e_allR, e_seqT, e_seqK, e_seqL, e_isi, e_isB, e_notB, e_truth, e_next, e_drop, e_ret, e_retN, e_ifS, e_set, e_asg, e_par, e_nm, e_gsN, e_gsC, e_gTpK, e_gTpL, e_sum, e_maxL, e_minL, e_maxDef, e_int, e_intB, e_aug, e_on3, e_par3, e_newK, e_getK, e_keyI, e_keyS, e_inK, e_ninK, e_putK, e_lenK, e_lstS, e_seqX, e_gTpT, e_oN, e_oS, e_sl, e_slT, e_slL, e_finT, e_finN, e_index, e_idxT, e_idxL, e_mIx, e_ixST, e_ixSL, e_mtL, e_w, e_w1, e_w2, e_wE, e_wZ, e_itK, e_itT, e_itL, e_itT2, e_itL2, e_lc, e_for, e_wipe0, e_wipe, e_okI, e_okR, e_gSb, List.getElem?_cons_zero, List.getElem?_cons_succ, List.set_cons_zero, List.set_cons_succ, rs]
    by_cases c1 : sl.getD (pr P a i) 0 = (a : Int)
    · refine iteT' (decide_eq_true c1) ?_
      rw [if_pos c1] at q
      try simp only [e_var, e_C, e_op, e_neg, e_isN, e_notN, e_and, e_or, e_not, e_test, e_tAnd, e_tOr, e_tNot, e_tYes, e_if, e_aNil, e_aCons, e_tup, e_lst, e_lstN, e_len0, e_len1, e_len2, e_len3, e_len4, e_len5, e_cb, e_on1, e_on2, e_onI, e_onB, e_onO, e_onO0, e_onOO, e_I0, e_I, e_add, e_addT, e_addS, e_addL, e_addLR, e_addRL, e_addRR, e_mul, e_mulL, e_mulT, e_rev, e_revT, e_ix, e_eqI, e_eqS, e_eqB, e_neI, e_neS, e_neB, e_ltI, e_chain, e_len, e_abs, e_2I, e_tuple1, e_tuple2, e_tuple3, e_listT, e_listN, e_allR, e_seqT, e_seqK, e_seqL, e_isi, e_isB, e_notB, e_truth, e_next, e_drop, e_ret, e_retN, e_ifS, e_set, e_asg, e_par, e_nm, e_gsN, e_gsC, e_gTpK, e_gTpL, e_sum, e_maxL, e_minL, e_maxDef, e_int, e_intB, e_aug, e_on3, e_par3, e_newK, e_getK, e_keyI, e_keyS, e_inK, e_ninK, e_putK, e_lenK, e_lstS, e_seqX, e_gTpT, e_oN, e_oS, e_sl, e_slT, e_slL, e_finT, e_finN, e_index, e_idxT, e_idxL, e_mIx, e_ixST, e_ixSL, e_mtL, e_w, e_w1, e_w2, e_wE, e_wZ, e_itK, e_itT, e_itL, e_itT2, e_itL2, e_lc, e_for, e_wipe0, e_wipe, e_okI, e_okR, e_gSb, List.getElem?_cons_zero, List.getElem?_cons_succ, List.set_cons_zero, List.set_cons_succ]
      exact q
    · refine iteF' (decide_eq_false c1) ?_
      rw [if_neg c1] at q
      try simp only [e_var, e_C, e_op, e_neg, e_isN, e_notN, e_and, e_or, e_not, e_test, e_tAnd, e_tOr, e_tNot, e_tYes, e_if, e_aNil, e_aCons, e_tup, e_lst, e_lstN, e_len0, e_len1, e_len2, e_len3, e_len4, e_len5, e_cb, e_on1, e_on2, e_onI, e_onB, e_onO, e_onO0, e_onOO, e_I0, e_I, e_add, e_addT, e_addS, e_addL, e_addLR, e_addRL, e_addRR, e_mul, e_mulL, e_mulT, e_rev, e_revT, e_ix, e_eqI, e_eqS, e_eqB, e_neI, e_neS, e_neB, e_ltI, e_chain, e_len, e_abs, e_2I, e_tuple1, e_tuple2, e_tuple3, e_listT, e_listN, e_allR, e_seqT, e_seqK, e_seqL, e_isi, e_isB, e_notB, e_truth, e_next, e_drop, e_ret, e_retN, e_ifS, e_set, e_asg, e_par, e_nm, e_gsN, e_gsC, e_gTpK, e_gTpL, e_sum, e_maxL, e_minL, e_maxDef, e_int, e_intB, e_aug, e_on3, e_par3, e_newK, e_getK, e_keyI, e_keyS, e_inK, e_ninK, e_putK, e_lenK, e_lstS, e_seqX, e_gTpT, e_oN, e_oS, e_sl, e_slT, e_slL, e_finT, e_finN, e_index, e_idxT, e_idxL, e_mIx, e_ixST, e_ixSL, e_mtL, e_w, e_w1, e_w2, e_wE, e_wZ, e_itK, e_itT, e_itL, e_itT2, e_itL2, e_lc, e_for, e_wipe0, e_wipe, e_okI, e_okR, e_gSb, List.getElem?_cons_zero, List.getElem?_cons_succ, List.set_cons_zero, List.set_cons_succ, rs]
      by_cases c2 : sl.getD (pr P a i) 0 = -1
      · refine iteT' (decide_eq_true c2) ?_
        rw [if_pos (.inl c2)] at q
        first
          | exact q
          | (rw [if_pos trivial]; exact q)
      · refine iteF' (decide_eq_false c2) ?_
        try simp only [e_var, e_C, e_op, e_neg, e_isN, e_notN, e_and, e_or, e_not, e_test, e_tAnd, e_tOr, e_tNot, e_tYes, e_if, e_aNil, e_aCons, e_tup, e_lst, e_lstN, e_len0, e_len1, e_len2, e_len3, e_len4, e_len5, e_cb, e_on1, e_on2, e_onI, e_onB, e_onO, e_onO0, e_onOO, e_I0, e_I, e_add, e_addT, e_addS, e_addL, e_addLR, e_addRL, e_addRR, e_mul, e_mulL, e_mulT, e_rev, e_revT, e_ix, e_eqI, e_eqS, e_eqB, e_neI, e_neS, e_neB, e_ltI, e_chain, e_len, e_abs, e_2I, e_tuple1, e_tuple2, e_tuple3, e_listT, e_listN, e_allR, e_seqT, e_seqK, e_seqL, e_isi, e_isB, e_notB, e_truth, e_next, e_drop, e_ret, e_retN, e_ifS, e_set, e_asg, e_par, e_nm, e_gsN, e_gsC, e_gTpK, e_gTpL, e_sum, e_maxL, e_minL, e_maxDef, e_int, e_intB, e_aug, e_on3, e_par3, e_newK, e_getK, e_keyI, e_keyS, e_inK, e_ninK, e_putK, e_lenK, e_lstS, e_seqX, e_gTpT, e_oN, e_oS, e_sl, e_slT, e_slL, e_finT, e_finN, e_index, e_idxT, e_idxL, e_mIx, e_ixST, e_ixSL, e_mtL, e_w, e_w1, e_w2, e_wE, e_wZ, e_itK, e_itT, e_itL, e_itT2, e_itL2, e_lc, e_for, e_wipe0, e_wipe, e_okI, e_okR, e_gSb, List.getElem?_cons_zero, List.getElem?_cons_succ, List.set_cons_zero, List.set_cons_succ, S.r_at hp, S.t_at hp ha]
        refine row_in ?_
        try simp only [e_var, e_C, e_op, e_neg, e_isN, e_notN, e_and, e_or, e_not, e_test, e_tAnd, e_tOr, e_tNot, e_tYes, e_if, e_aNil, e_aCons, e_tup, e_lst, e_lstN, e_len0, e_len1, e_len2, e_len3, e_len4, e_len5, e_cb, e_on1, e_on2, e_onI, e_onB, e_onO, e_onO0, e_onOO, e_I0, e_I, e_add, e_addT, e_addS, e_addL, e_addLR, e_addRL, e_addRR, e_mul, e_mulL, e_mulT, e_rev, e_revT, e_ix, e_eqI, e_eqS, e_eqB, e_neI, e_neS, e_neB, e_ltI, e_chain, e_len, e_abs, e_2I, e_tuple1, e_tuple2, e_tuple3, e_listT, e_listN, e_allR, e_seqT, e_seqK, e_seqL, e_isi, e_isB, e_notB, e_truth, e_next, e_drop, e_ret, e_retN, e_ifS, e_set, e_asg, e_par, e_nm, e_gsN, e_gsC, e_gTpK, e_gTpL, e_sum, e_maxL, e_minL, e_maxDef, e_int, e_intB, e_aug, e_on3, e_par3, e_newK, e_getK, e_keyI, e_keyS, e_inK, e_ninK, e_putK, e_lenK, e_lstS, e_seqX, e_gTpT, e_oN, e_oS, e_sl, e_slT, e_slL, e_finT, e_finN, e_index, e_idxT, e_idxL, e_mIx, e_ixST, e_ixSL, e_mtL, e_w, e_w1, e_w2, e_wE, e_wZ, e_itK, e_itT, e_itL, e_itT2, e_itL2, e_lc, e_for, e_wipe0, e_wipe, e_okI, e_okR, e_gSb, List.getElem?_cons_zero, List.getElem?_cons_succ, List.set_cons_zero, List.set_cons_succ]
        by_cases c3 : sl.getD (pr P a i) 0 ∈ (R.getD (pr P a i) []).getD a []
        · refine iteT' (decide_eq_true c3) ?_
          rw [if_pos (.inr c3)] at q
          exact q
        · refine iteF' (decide_eq_false c3) ?_
          rw [if_neg (fun z => z.elim c2 c3)] at q
          exact hN _ _ (.inl ⟨i + 1, _, _, rfl, by omega, rfl, rfl, q⟩)
  · rintro r st' ⟨i, x4, x5, e, le, rfl, rfl, q⟩
    have := enumK_end e
    rw [show n - i = 0 by omega] at q
    unfold seekF at q
    try simp only [e_var, e_C, e_op, e_neg, e_isN, e_notN, e_and, e_or, e_not, e_test, e_tAnd, e_tOr, e_tNot, e_tYes, e_if, e_aNil, e_aCons, e_tup, e_lst, e_lstN, e_len0, e_len1, e_len2, e_len3, e_len4, e_len5, e_cb, e_on1, e_on2, e_onI, e_onB, e_onO, e_onO0, e_onOO, e_I0, e_I, e_add, e_addT, e_addS, e_addL, e_addLR, e_addRL, e_addRR, e_mul, e_mulL, e_mulT, e_rev, e_revT, e_ix, e_eqI, e_eqS, e_eqB, e_neI, e_neS, e_neB, e_ltI, e_chain, e_len, e_abs, e_2I, e_tuple1, e_tuple2, e_tuple3, e_listT, e_listN, e_allR, e_seqT, e_seqK, e_seqL, e_isi, e_isB, e_notB, e_truth, e_next, e_drop, e_ret, e_retN, e_ifS, e_set, e_asg, e_par, e_nm, e_gsN, e_gsC, e_gTpK, e_gTpL, e_sum, e_maxL, e_minL, e_maxDef, e_int, e_intB, e_aug, e_on3, e_par3, e_newK, e_getK, e_keyI, e_keyS, e_inK, e_ninK, e_putK, e_lenK, e_lstS, e_seqX, e_gTpT, e_oN, e_oS, e_sl, e_slT, e_slL, e_finT, e_finN, e_index, e_idxT, e_idxL, e_mIx, e_ixST, e_ixSL, e_mtL, e_w, e_w1, e_w2, e_wE, e_wZ, e_itK, e_itT, e_itL, e_itT2, e_itL2, e_lc, e_for, e_wipe0, e_wipe, e_okI, e_okR, e_gSb, List.getElem?_cons_zero, List.getElem?_cons_succ, List.set_cons_zero, List.set_cons_succ, List.length_map, L.len]
    exact q
end DL
namespace DL
open PySem PySem.Spec PyProof.Rows L2 LamX PySem.W SL
end DL
set_option maxHeartbeats 2000000
namespace SL
open PySem PySem.Spec PyProof.Rows L2 LamX PySem.W
section
variable {X : Cx} {pins : List (Addr × Obj)} {σ : L2.St} {H : Hp} {s : Shared}
theorem startPw {A : Around} {scope : Scope} {x : Str} {f c' : Addr} {g : Heap} {tk : Nat} {v : V} {u : Value} (I : Inv X pins σ H s) (L : LamP X.env.scope scope x) (nx : ∀ (i : Nat) (w : V), X.N[i]? = some x → σ[i]? ≠ some (some w)) (e0 : Env0 X.prog X.w X.K X.mg X.base A X.stack s H) (hd : A.handled = none)
    (rv : RelV v u) (hns : g.Ns s.heap.objs.size fun y => [(x, u)].reverse.lookup y) (kp : ∀ b o, s.heap.get? b = some o → g.get? b = some o) : Inv (cxP X A s H scope x f c') [] (σ ++ [some v]) H { s with heap := g, toks := tk } := by
  have full := L.has I.ok
  have back : ∀ {y c}, (cloFrom X.env.cells scope.names []).lookup y = some c → X.env.cells.lookup y = some c := by
    intro y c e
    rcases cloFrom_mem (PySem.mem_of_lookup e) with m | ⟨m, e2⟩
    · cases m
    · obtain ⟨d, hd⟩ := full _ m rfl
      have hd' : X.env.cells.lookup y = some d := hd
      rw [hd'] at e2
      rw [hd', e2]
      rfl
  have cellK : ∀ {c : Addr} {z : Option Value}, s.heap.IsCell c z → g.IsCell c z := by
    rintro c z ⟨o, ho, e⟩
    exact ⟨o, kp _ _ ho, e⟩
  have noE : ∀ b : Addr, b ∉ (cxP X A s H scope x f c').ex := fun b z => by cases (show b ∈ ([] : List Addr) from z)
  have lenN := I.len
  refine ⟨⟨e0.mod, L.kind, rfl, rfl, Nat.le_refl _, fun y z c p q => I.ok.inj y z c (back p) (back q), ?_, ?_, fun _ => hd, Around.frames_deeper e0.1, Or.inr ⟨rfl, rfl⟩,
      fun b z => absurd z (noE b), e0.bs, e0.bsz, fun b _ _ => noE b, fun b z => absurd z (noE b), e0.funs, e0.frf⟩, rfl, e0.bare, Un.kept kp, ⟨_, hns, ?_⟩, ?_, e0.hok.fresh (Nat.le_refl _), ?_, ?_, e0.hok.kept kp, ?_⟩
  · intro y hy
    have hy : scope.names.lookup y = some .cell ∨ scope.names.lookup y = some .free := hy
    rcases hy with hy | hy
    · exact absurd rfl (L.only _ (PySem.mem_of_lookup hy)).1
    · exact mem_lookup (cloFrom_has (cells := X.env.cells) (acc := []) (PySem.mem_of_lookup hy))
  · intro y c z
    cases (show false = true from z)
  · intro i y w' e1 e2 vis
    have e1 : (X.N ++ [x])[i]? = some y := e1
    have vis : Vis scope y := vis
    rcases Nat.lt_or_ge i X.N.length with li | ge
    · rw [List.getElem?_append_left li] at e1
      rw [List.getElem?_append_left (by omega)] at e2
      have ny : y ≠ x := fun z => nx i w' (by rw [← z]; exact e1) e2
      rcases vis with k | k | k
      · exact absurd ((L.only _ (PySem.mem_of_lookup k)).2 rfl) ny
      · exact absurd rfl (L.only _ (PySem.mem_of_lookup k)).1
      · obtain ⟨m, hn, hl⟩ := I.loc
        have see : Vis X.env.scope y := by
          rcases L.from_ _ (PySem.mem_of_lookup k) rfl with z | z
          · exact Or.inr (Or.inl z)
          · exact Or.inr (Or.inr z)
        obtain ⟨u', r, q⟩ := hl i y w' e1 e2 see
        obtain ⟨c2, h2⟩ := mem_lookup (cloFrom_has (cells := X.env.cells) (acc := []) (PySem.mem_of_lookup k))
        refine ⟨u', r, Or.inr ⟨Or.inr k, c2, h2, ?_⟩⟩
        have c1 := back h2
        rcases q with ⟨k', _⟩ | ⟨_, c3, e', z⟩
        · have k' : X.env.scope.names.lookup y = some .local := k'
          rcases L.from_ _ (PySem.mem_of_lookup k) rfl with k2 | k2 <;> rw [show X.env.scope.names.lookup y = _ from k2] at k' <;> cases k'
        · rw [c1] at e'
          cases e'
          exact cellK z
    · have hi : i = X.N.length := by
        have z := (List.getElem?_eq_some_iff.mp e1).1
        rw [List.length_append, List.length_singleton] at z
        omega
      subst hi
      rw [List.getElem?_append_right (Nat.le_refl _), Nat.sub_self] at e1
      rw [List.getElem?_append_right (by omega), show X.N.length - σ.length = 0 by omega] at e2
      cases e1
      cases e2
      exact ⟨u, rv, Or.inl ⟨L.mine, by simp⟩⟩
  · intro y c e
    obtain ⟨z, q⟩ := I.cell y c (back e)
    exact ⟨z, cellK q⟩
  · intro y c e
    exact I.freeC y c (back e)
  · intro p hp
    cases (show p ∈ ([] : List (Addr × Obj)) ++ [] from hp)
  · show (σ ++ [some v]).length = (X.N ++ [x]).length
    rw [List.length_append, List.length_append, lenN]
    rfl
theorem Inv_wipe (I : Inv X pins σ H s) (vs : List Nat) : Inv X pins (L2.wipe σ vs) H s :=
  ⟨I.ok, I.os, I.bare, I.base, let ⟨m, hn, hl⟩ := I.loc; ⟨m, hn, fun i x v e1 e2 vis => hl i x v e1 (L2.wipe_some e2).1 vis⟩, I.cell, I.free, I.freeC, I.pin, I.hok, by rw [L2.wipe_length]; exact I.len⟩
theorem callP1 {params : Arguments} {body : Expr} {scope : Scope} {x : Str} {f c' : Addr} {pm ctv : Value} {k : Nat} {tb : TE} {v : V} {u : Value} {Q : VK} {js : List Nat} (I : Inv X pins σ H s) (L : LamP X.env.scope scope x) (nx : ∀ i : Nat, X.N[i]? = some x → i ∈ js)
    (hf : s.heap.get? f = some (PySem.W.kla_obj "<lambda>" (X.env.qual ++ "<lambda>") params body scope (cloFrom X.env.cells scope.names []) pm c' ctv)) (hco : H c' = some (CodeO c' (X.env.qual ++ "<lambda>")))
    (hbind : bindArgs (PySem.W.kla_fn "<lambda>" (X.env.qual ++ "<lambda>") params body scope (cloFrom X.env.cells scope.names []) pm (.ref c') ctv) ⟨[u], []⟩ = pure [(x, u)]) (room : Room (k + 2) X.A)
    (hbody : ∀ (A : Around) (s : Shared) (H : Hp), Room k (A.deeper (lamEnv X scope s.heap.objs.size f c')) → PE (cxP X A s H scope x f c') body tb) (rv : RelV v u) (ht : tb (L2.wipe σ js ++ [some v]) H Q) :
    wpAny (model X.prog X.w) X.A.in1 (call (.ref f) [u]) (fun r s2 => CE X.stack X.prog X.w H s Q r s2) (fun _ _ => False) s := by
  have r1 : Room (k + 1) X.A.in1 := Room.in1 room
  have e0 : Env0 X.prog X.w X.K X.mg X.base X.A.in1 X.stack s H := ⟨I.env0.1, I.env0.mod, I.env0.bs, I.env0.bsz, I.env0.funs, I.env0.frf, I.env0.hok, I.env0.bare⟩
  obtain ⟨⟨oc, fs, t, hoc, hdc, hvc⟩, _, _⟩ := I.hok c' _ hco
  have run : codeAny (model X.prog X.w) X.A.in1 (.call (.ref f) ⟨[u], []⟩) (fun r s2 => ∃ z, r = .ok (.ret z) ∧ CE X.stack X.prog X.w H s Q z s2) s := by
    refine PySem.W.kla_callFunE r1.depth hf rfl L.co L.gen rfl ⟨c', oc, fs, t, rfl, hoc, hdc, hvc⟩ ?_
    rw [hbind]
    refine wpAny_pure (wpAny_newFunctionEnv (fun y hy => (L.only y hy).1) (fun y hy => ?_) (fun g hns hsb => ⟨I.nolimit.fresh _ hsb, ?_⟩) L.kind)
    · rw [List.mem_singleton] at hy
      rw [hy]
      exact L.mine
    · show codeAny _ _ (.expr body (lamEnv X scope s.heap.objs.size f c')) _ _
      have kp : ∀ b o, s.heap.get? b = some o → g.get? b = some o := fun b o e => hsb.extBut b o (Nat.ne_of_lt (Heap.lt_size e)) (Heap.get?_push_of_some _ e)
      have J := startPw (f := f) (c' := c') (tk := s.toks + ([(x, u)] : List (Str × Value)).length) (Inv_wipe I js) L (fun i w e1 e2 => (L2.wipe_some e2).2 (nx i e1)) e0 r1.hd rv hns kp
      refine PySem.W.kla_codeExpr (wpAny_mono ((hbody _ s H (r1.deeper _)).run [] _ _ H Q J ht) (fun z s2 hq => ?_) fun _ _ hq => False.elim hq)
      obtain ⟨z', H', J', rz, q⟩ := hq
      exact ⟨z, rfl, z', H', J'.os, J'.bare, J'.base, J'.hok, rz, q⟩
  refine wpAny_call (codeAny_mono run fun r s2 hq => ?_)
  obtain ⟨z, rfl, hq⟩ := hq
  exact hq
end
theorem argBest_spec (k : Nat → Int) : ∀ m : Nat, argBest (fun i j => decide (k i > k j)) m ≤ m ∧ ∀ j, j ≤ m → k j ≤ k (argBest (fun i j => decide (k i > k j)) m)
  | 0 => ⟨Nat.le_refl _, fun j h => by have : j = 0 := by omega
                                       subst this; exact Int.le_refl _⟩
  | m + 1 => by
    obtain ⟨a, b⟩ := argBest_spec k m
    unfold argBest
    by_cases c : k (m + 1) > k (argBest (fun i j => decide (k i > k j)) m)
    · rw [if_pos (decide_eq_true c)]
      refine ⟨Nat.le_refl _, fun j h => ?_⟩
      rcases Nat.lt_or_ge m j with l | l
      · have : j = m + 1 := by omega
        subst this
        exact Int.le_refl _
      · have := b j l
        omega
    · rw [if_neg (fun z => c (of_decide_eq_true z))]
      refine ⟨by omega, fun j h => ?_⟩
      rcases Nat.lt_or_ge m j with l | l
      · have : j = m + 1 := by omega
        subst this
        omega
      · exact b j l
theorem walkN {P : Program} {w : World} {A : Around} (hh : A.handled = none) (I a : Addr) (hne : a ≠ I) (ns : List Int) :
    WalksS P w A I [I, a] [I] (fun x y => y = x) ns.length (fun i v => ∃ (n : Int) (t : Tok), ns[i]? = some n ∧ v = .int n t) (fun i s => s.heap.IsListIter I a i ∧ ∃ its : List Value, Vals (ns.map V.int) its ∧ s.heap.IsList a its.toArray) where
  sub := fun b hb => by simp at hb; simp [hb]
  grefl := fun _ => rfl
  gtrans := fun _ _ _ h1 h2 => h2.trans h1
  frame := fun i s h' tk ⟨st, its, rv, il⟩ _ hk => ⟨st.at fun o e => hk I (by simp) o e, its, rv, il.at fun o e => hk a (by simp) o e⟩
  item := fun i s Q E hi ⟨st, its, rv, il⟩ hQ => by
    have len : its.length = ns.length := by rw [← rv.length, List.length_map]
    refine (Walks.list hh I a hne its.toArray).toS.item i s Q E (by simp; omega) ⟨st, il⟩ fun v s' hv st' mv => hQ v s' ?_ ⟨st'.1, its, rv, st'.2⟩ mv
    have hv' : its[i]? = some v := by simpa using hv
    obtain ⟨u, hu, ru⟩ := rv.get (i := i) (x := .int (ns[i]'hi)) (by rw [List.getElem?_map, List.getElem?_eq_getElem hi]; rfl)
    rw [hv'] at hu
    cases hu
    obtain ⟨t, e⟩ := ru
    exact ⟨_, t, List.getElem?_eq_getElem hi, e⟩
  done := fun s Q E ⟨st, its, rv, il⟩ hQ => by
    have len : its.length = ns.length := by rw [← rv.length, List.length_map]
    exact (Walks.list hh I a hne its.toArray).toS.done s Q E ⟨by simp only [List.size_toArray, len]; exact st, il⟩ fun s' mv => hQ s' mv
  self := fun i s Q E ⟨st, its, rv, il⟩ hQ => (Walks.list hh I a hne its.toArray).toS.self i s Q E ⟨st, il⟩ hQ
def tMaxKey (K : PySem.W.Frag) (T : List (Addr × Str)) (v0 : Int) (js : List Nat) (ta tb : TE) : TE := fun σ H Q => ta σ H fun v H1 => ∃ (a : Addr) (ns : List Int), v = .ref a ∧ SqL K H1 a (ns.map V.int) ∧ Tabs T H1 ∧ ∀ H2 : Hp, ExtN H1 H2 → Tabs T H2 →
  ∃ k : Nat → Int, (∀ (i : Nat) (n : Int) (H3 : Hp), ns[i]? = some n → Same H2 H3 → tb (L2.wipe σ js ++ [some (.int n)]) H3 fun z H4 => Same H3 H4 ∧ z = .int (k i)) ∧
    (ns = [] → ∀ H3 : Hp, Same H2 H3 → Q (.int v0) H3) ∧ ∀ (i : Nat) (n : Int), ns[i]? = some n → (∀ j, j < ns.length → k j ≤ k i) → ∀ H3 : Hp, Same H2 H3 → Q (.int n) H3
theorem sqL_same {K : PySem.W.Frag} {H H' : Hp} {a : Addr} {xs : List V} (h : SqL K H a xs) (e : ExtN H H') : SqL K H' a xs := by
  rcases h with (h | ⟨o, h⟩) | h
  · exact .inl (.inl (e _ _ h fun ps z => by cases z))
  · exact .inl (.inr ⟨o, e _ _ h fun ps z => by cases z⟩)
  · exact .inr h
theorem pe_maxKey {X : Cx} {T : List (Addr × Str)} {e body : Expr} {ta tb : TE} {x dn : Str} {v0 : Int} {u0 : Value} {params : Arguments} {scope : Scope} {k : Nat} {c Pt : Addr} {p1 p4 p5 p6 p7 pos : Pos} (calm : X.calm = true) (g1 : Gl X "max") (m1 : X.mg "max" = none)
    (gd0 : Gl X dn) (md : X.mg dn = some u0) (rd : RelV (.int v0) u0)
    (ha : PE X e ta) (TB : TabB X.base X.mg c Pt) (hcode : X.env.code = .ref c) (hT : (Pt, X.env.qual ++ "<lambda>") ∈ T) (hu : ∀ p ∈ T, p.1 = Pt → p.2 = X.env.qual ++ "<lambda>") {js : List Nat} (room : Room (k + 2) X.A) (L : LamP X.env.scope scope x) (nx : ∀ i : Nat, X.N[i]? = some x → i ∈ js) (hdef : defaultsOf params X.env = ([], []))
    (hbind : ∀ (q : Str) (cl : List (Str × Addr)) (pm cv ctv u : Value), bindArgs (kla_fn "<lambda>" q params body scope cl pm cv ctv) ⟨[u], []⟩ = pure [(x, u)])
    (hbody : ∀ (A : Around) (s : Shared) (H : Hp) (f c' : Addr), Room k (A.deeper (lamEnv X scope s.heap.objs.size f c')) → PE (cxP X A s H scope x f c') body tb)
    (hdb : (dn == ("__debug__" : Str)) = false := by decide)
    (na : starEach [e] X.env = (false, eval e X.env) :: starEach [] X.env := by rfl)
    (he : backTo pos (starEach [e] X.env) = (false, eval e X.env) :: backTo pos (starEach [] X.env) := by rfl) (hpl : (backTo pos (starEach [e] X.env)).any (·.1) = false := by rfl) :
    PE X (.Call (.Name "max" p1) [e] [⟨some "key", .Lambda params body scope p4, p5⟩, ⟨some "default", .Name dn p6, p7⟩] pos) (tMaxKey X.K T v0 js ta tb) := by
  refine ⟨fun pins s σ H Q I h => ?_⟩
  refine wpAny_Call_Name_kw (ld_blt (u := .builtin "max") I g1 m1 (by decide +kernel) ?_)
  refine callWith_kw ?_ he hpl
  refine thn ((pa_cons ha pa_nil na).run pos pins s σ H (fun vs H1 => match vs with | [v] => (∃ (a : Addr) (ns : List Int), v = .ref a ∧ SqL X.K H1 a (ns.map V.int) ∧ Tabs T H1 ∧ ∀ H2 : Hp, ExtN H1 H2 → Tabs T H2 →
    ∃ k : Nat → Int, (∀ (i : Nat) (n : Int) (H3 : Hp), ns[i]? = some n → Same H2 H3 → tb (L2.wipe σ js ++ [some (.int n)]) H3 fun z H4 => Same H3 H4 ∧ z = .int (k i)) ∧
    (ns = [] → ∀ H3 : Hp, Same H2 H3 → Q (.int v0) H3) ∧ ∀ (i : Nat) (n : Int), ns[i]? = some n → (∀ j, j < ns.length → k j ≤ k i) → ∀ H3 : Hp, Same H2 H3 → Q (.int n) H3) | _ => False) I h) fun us s1 h1 => ?_
  obtain ⟨vs1, H1, I1, r1, q1⟩ := h1
  match vs1, r1, q1 with
  | [v1], r1, q1 =>
  obtain ⟨a, ns, rfl, sq, tabs, q⟩ := q1
  have e1 := Vals.ref1 r1
  subst e1
  show wpAny _ _ (evalAll ((do let v ← eval (.Lambda params body scope p4) X.env; standAt pos; pure v) :: (do let v ← eval (.Name dn p6) X.env; standAt pos; pure v) :: [])) _ _ _
  refine wpAny_evalAll_cons (wpAny_bind (lam_make2 I1 TB hcode hT hu tabs hdef (L.has I.ok) fun f c' pm ctv H2 s2 I2 ext tabs2 hf hfn hfr hco => wpAny_bind (wpAny_standAt (wpAny_pure ?_))))
  refine wpAny_evalAll_cons (wpAny_bind (ld_glob I2 gd0 md (wpAny_bind (wpAny_standAt (wpAny_pure (wpAny_evalAll_nil ?_)))) hdb))
  obtain ⟨kk, bodies, q0, q1⟩ := q H2 ext tabs2
  have sq2 := sqL_same sq ext
  obtain ⟨its, rvs, il, fewS⟩ := I2.list sq2
  show wpAny _ _ (call (.builtin "max") [.ref a] [(Str.ofString "key", .ref f), (Str.ofString "default", u0)]) _ _ _
  refine call_max_walkKD (wpAny_pyIter_list il.isList ?_)
  have al : a < s2.heap.objs.size := by obtain ⟨_, e, _⟩ := il.isList; exact Heap.lt_size e
  have fl : f < s2.heap.objs.size := Heap.lt_size hf
  have ne : a ≠ s2.heap.objs.size := Nat.ne_of_lt al
  have kp : ∀ b o, s2.heap.get? b = some o → (s2.heap.push { cls := .type "list_iterator", data := .fields #[.ref a, .int 0 0] }).get? b = some o := fun b o e => Heap.get?_push_of_some _ e
  have sz : (s2.heap.push { cls := .type "list_iterator", data := .fields #[.ref a, .int 0 0] }).objs.size = s2.heap.objs.size + 1 := Heap.size_push ..
  have I3 : Inv X pins σ H2 { s2 with heap := s2.heap.push { cls := .type "list_iterator", data := .fields #[.ref a, .int 0 0] } } := I2.kept (t' := s2.toks) kp
  rw [show ({ s2 with heap := s2.heap.push { cls := .type "list_iterator", data := .fields #[.ref a, .int 0 0] } } : Shared).heap.objs.size = s2.heap.objs.size + 1 from sz]
  have itf : H2 s2.heap.objs.size = none := I2.hok.fresh (Nat.le_refl _)
  have stf : H2 (s2.heap.objs.size + 1) = none := I2.hok.fresh (Nat.le_succ _)
  have frI : s2.heap.objs.size ∉ frs X.stack := inv_apart I2 (Nat.le_refl _)
  have frS : s2.heap.objs.size + 1 ∉ frs X.stack := inv_apart I2 (Nat.le_succ _)
  refine ⟨s2.heap.objs.size, _, _, _, ns.length, _, _, fun s3 => ∃ H3 : Hp, Inv X pins σ H3 s3 ∧ Same H2 H3 ∧ H3 s2.heap.objs.size = none ∧ H3 (s2.heap.objs.size + 1) = none ∧ H3 f = none ∧ s3.heap.get? f = some (kla_obj "<lambda>" (X.env.qual ++ "<lambda>") params body scope (cloFrom X.env.cells scope.names []) pm c' ctv),
    fun i v s3 => ∃ t, v = .int (kk i) t, fun i j => decide (kk i > kk j), rfl, walkN (A := X.A.in1) (show X.A.in1.handled = none from I.ok.hd calm) s2.heap.objs.size a ne ns, ?_, fun b hb => ?_, ⟨?_, ?_, ?_, ?_⟩, ⟨H2, I3, fun _ _ e => e, itf, stf, hfn, kp _ _ hf⟩, fun n0 s' hJ => ?_, fun n0 v s' hv hJ => ?_⟩
  · exact ⟨⟨_, Heap.get?_push_size _ rfl, rfl, rfl⟩, its, rvs, il.isList.at fun o e => kp a o e⟩
  · simp only [List.mem_cons, List.not_mem_nil, or_false] at hb
    rcases hb with z | z
    · rw [z]; exact Nat.lt_succ_self _
    · rw [z]; exact Nat.lt_succ_of_lt al
  · rintro s3 s4 ⟨H3, J, sm, nI, nS, nf, hf3⟩ mv
    obtain ⟨h4, g4, d4, t4, o4⟩ := s4
    have e1 : g4 = s3.gens := mv.gens
    have e2 : d4 = s3.drawn := mv.drawn
    have e3 : o4 = s3.os := mv.os
    subst e1 e2 e3
    have mh : ∀ b o, b ∉ [s2.heap.objs.size + 1, s2.heap.objs.size] → s3.heap.get? b = some o → h4.get? b = some o := fun b o nb e => mv.heap b o nb e
    refine ⟨H3, inv_new (g := h4) (tk := t4) (ch := [s2.heap.objs.size + 1, s2.heap.objs.size]) I2 J (fun b hb => ?_) (fun b hb => ?_) mh, sm, nI, nS, nf, mh _ _ (fun z => by
      rcases List.mem_cons.mp z with z | z
      · exact absurd z (Nat.ne_of_lt (Nat.lt_succ_of_lt fl))
      · exact absurd (List.mem_singleton.mp z) (Nat.ne_of_lt fl)) hf3⟩
    · simp only [List.mem_cons, List.not_mem_nil, or_false] at hb
      rcases hb with z | z
      · rw [z]; exact Nat.le_succ _
      · rw [z]; exact Nat.le_refl _
    · simp only [List.mem_cons, List.not_mem_nil, or_false] at hb
      rcases hb with z | z
      · rw [z]; exact nS
      · rw [z]; exact nI
  · exact fun i k s3 s4 h _ => h
  · rintro i v s3 o Q' E' hi ⟨n, t, hn, rfl⟩ ⟨H3, J, sm, nI, nS, nf, hf3⟩ ⟨st, _⟩ hS hQ
    refine wpAny_mono (callP1 (k := k) (v := .int n) J L nx hf3 (sm _ _ hco) (hbind _ _ _ _ _ _) room (fun A s H r => hbody A s H f c' r) ⟨t, rfl⟩ (bodies i n H3 hn sm)) (fun u s4 h4 => ?_) fun _ _ z => z.elim
    obtain ⟨z, H4, os, bare, un, hok, rz, sm4, rfl⟩ := h4
    obtain ⟨t4, rfl⟩ := rz
    have J4 := J.call' (ch := []) os un hok bare (fun b h => by cases h)
    have sm2 := sm.trans sm4
    obtain ⟨its4, rv4, il4, _⟩ := J4.list (sqL_same sq2 fun b o h _ => sm2 b o h)
    refine hQ _ s4 ⟨H4, J4, sm2, ?_, un.free _ _ hS nS (by simp), un.free _ _ hf3 nf (by simp), un.keep _ _ hf3 nf hfr (by simp)⟩ ⟨?_, its4, rv4, il4.isList⟩ (un.keep _ _ hS nS frS (by simp)) ⟨t4, rfl⟩ fun j k' h => h
    · obtain ⟨oi, ei, _⟩ := st
      exact un.free _ _ ei nI (by simp)
    · exact st.at fun o e => un.keep _ _ e nI frI (by simp)
  · rintro i j ki kj s3 Q' E' _ ⟨t1, rfl⟩ ⟨t2, rfl⟩ hq
    exact CmpOf.ints_gt (P := fun i v => ∃ t, v = .int (kk i) t) kk (fun i v h => h) i j _ _ s3 Q' E' ⟨t1, rfl⟩ ⟨t2, rfl⟩ hq
  · obtain ⟨H3, J, sm, _⟩ := hJ
    exact ⟨.int v0, H3, J, rd, q0 (List.length_eq_zero_iff.mp n0) H3 sm⟩
  · obtain ⟨H3, J, sm, _⟩ := hJ
    obtain ⟨n, t, hn, rfl⟩ := hv
    exact ⟨.int n, H3, J, ⟨t, rfl⟩, q1 _ n hn (fun j hj => (argBest_spec kk (ns.length - 1)).2 j (by omega)) H3 sm⟩
end SL
namespace DL
open PySem PySem.Spec PyProof.Rows L2 LamX PySem.W SL
def dMaxKey (v0 : Int) (js : List Nat) (fe : DTE) (fb : DPE) : DTE := fun r st Q => fe r st fun x st1 => ∃ ns : List Int, x = .lst (ns.map D.int) ∧ ∃ k : Nat → Int,
  (∀ (i : Nat) (n : Int), ns[i]? = some n → fb (wipeD r js ++ [some (.int n)]) st1 = some (.int (k i))) ∧ (ns = [] → Q (.int v0) st1) ∧ ∀ (i : Nat) (n : Int), ns[i]? = some n → (∀ j, j < ns.length → k j ≤ k i) → Q (.int n) st1
theorem lift_maxKey {T : List (Addr × Str)} {K : Frag} {v0 : Int} {js : List Nat} {fe : DTE} {fb : DPE} {σ : L2.St} {H : Hp} {Q : VK} (h : lift T K (dMaxKey v0 js fe fb) σ H Q) : tMaxKey K T v0 js (lift T K fe) (liftP T K fb) σ H Q := by
  obtain ⟨M, r, st, Q', s, re, h, k⟩ := h
  refine ⟨M, r, st, _, s, re, h, fun M1 H1 st1 x vx g1 s1 r1 q => ?_⟩
  obtain ⟨ns, rfl, key, a4, a5, a6⟩ := q
  obtain ⟨p, rfl, is, ok⟩ := itL.is s1 r1 (I := ⟨ns.map D.int, none⟩) rfl
  obtain ⟨ys, rs, sq⟩ := is M1 H1 st1 (Later.refl _ _) s1 ok
  have z := rs.ints
  subst z
  refine ⟨p, ns, rfl, sq, s1.tabs, fun H2 ext tabs => ?_⟩
  have s2 := s1.ext ext tabs
  have g2 := grow_ext s1 ext
  refine ⟨key, fun i n H3 hn sm => ?_, fun e H3 sm => ?_, fun i n hn best H3 sm => ?_⟩
  · have e := a4 i n hn
    have s3 := s2.same sm
    refine ⟨M1, wipeD r js ++ [some (.int n)], st1, _, s3, ((((re.grow g1).grow g2).grow (same_grow s2 sm)).wipe js).snoc (.int _), e, fun H4 v sm4 rv => ⟨sm4, ?_⟩⟩
    cases rv
    rfl
  · exact k M1 H3 st1 _ _ ((g1.trans g2).trans (same_grow s2 sm)) (s2.same sm) (.int _) (a5 e)
  · exact k M1 H3 st1 _ _ ((g1.trans g2).trans (same_grow s2 sm)) (s2.same sm) (.int _) (a6 i n hn best)
def nslotsB (N : List Str) (x : Str) (js : List Nat) : Bool := (List.range N.length).all fun i => !(N[i]? == some x) || js.contains i
theorem nslots_by {N : List Str} {x : Str} {js : List Nat} (h : nslotsB N x js = true) : ∀ i : Nat, N[i]? = some x → i ∈ js := fun i e => by
  unfold nslotsB at h
  rw [List.all_eq_true] at h
  have z := h i (List.mem_range.mpr (List.getElem?_eq_some_iff.mp e).1)
  rw [e] at z
  simpa using z
theorem de_maxKey {X : Cx} {T : List (Addr × Str)} {e body : Expr} {fe : DTE} {fb : DPE} {x dn : Str} {v0 : Int} {u0 : Value} {params : Arguments} {scope : Scope} {k : Nat} {c Pt : Addr} {p1 p4 p5 p6 p7 pos : Pos} (calm : X.calm = true) (g1 : Gl X "max") (m1 : X.mg "max" = none)
    (gd0 : Gl X dn) (md : X.mg dn = some u0) (rd : RelV (.int v0) u0)
    (ha : DE T X e fe) (TB : TabB X.base X.mg c Pt) (hcode : X.env.code = .ref c) (hT : (Pt, X.env.qual ++ "<lambda>") ∈ T) (hu : ∀ p ∈ T, p.1 = Pt → p.2 = X.env.qual ++ "<lambda>") {js : List Nat} (room : Room (k + 2) X.A) (L : LamP X.env.scope scope x) (nx : ∀ i : Nat, X.N[i]? = some x → i ∈ js) (hdef : defaultsOf params X.env = ([], []))
    (hbind : ∀ (q : Str) (cl : List (Str × Addr)) (pm cv ctv u : Value), bindArgs (kla_fn "<lambda>" q params body scope cl pm cv ctv) ⟨[u], []⟩ = pure [(x, u)])
    (hbody : ∀ (A : Around) (s : Shared) (H : Hp) (f c' : Addr), Room k (A.deeper (lamEnv X scope s.heap.objs.size f c')) → DP T (cxP X A s H scope x f c') body fb)
    (hdb : (dn == ("__debug__" : Str)) = false := by decide)
    (na : starEach [e] X.env = (false, eval e X.env) :: starEach [] X.env := by rfl)
    (he : backTo pos (starEach [e] X.env) = (false, eval e X.env) :: backTo pos (starEach [] X.env) := by rfl) (hpl : (backTo pos (starEach [e] X.env)).any (·.1) = false := by rfl) :
    DE T X (.Call (.Name "max" p1) [e] [⟨some "key", .Lambda params body scope p4, p5⟩, ⟨some "default", .Name dn p6, p7⟩] pos) (dMaxKey v0 js fe fb) :=
  PE.imp (pe_maxKey calm g1 m1 gd0 md rd ha TB hcode hT hu room L nx hdef hbind hbody hdb na he hpl) fun _ _ _ h => lift_maxKey h
end DL
namespace DL
open PySem PySem.Spec PyProof.Rows L2 LamX PySem.W SL
def F_slots_ahead : DTS := (sRet (dSlG finT (dVar 0) oNone (oSome (dIndex (dVar 0) (daCons (dVar 1) daNil)))))
def F_strongest_asking (g_would_rather : DRs) : DTS := (sSeq (sSet 5 (dLcG (wSeq (dVar 4)) (gNm 6) (dTest (dCB g_would_rather (daCons (dVar 0) (daCons (dVar 2) (daCons (dVar 6) (daCons (dVar 3) daNil)))))) (dVar 6) [6] finT)) (sRet (dMaxKey (-1) [6] (dVar 5) (pLen (pIx (pIx (pVar 1) (pVar 3)) (pVar 7))))))
def F_would_rather (g_slots_ahead : DRs) : DTS := (sRet (dOp dIn (dVar 3) (dCB g_slots_ahead (daCons (dOp dIx (dVar 0) (dVar 2)) (daCons (dIndex (dVar 1) (daCons (dVar 2) daNil)) daNil)))))
end DL
namespace ML
end ML
namespace ML
end ML
namespace ML
section
variable {n : Nat} {o : Nat → Prop} [DecidablePred o] {h d : Nat → Nat}
end
end ML
namespace DL
open PySem PySem.Spec PyProof.Rows L2 LamX PySem.W SL
section
variable {m n : Nat} {P : List (List Int)} {R : List (List (List Int))}
def Wants (P : List (List Int)) (sl : List Int) (h k s : Nat) : Prop := At sl s k ∧ rk P k h < rk P k s
end
end DL
namespace DL
open PySem PySem.Spec PyProof.Rows L2 LamX PySem.W SL
def g_ahead : DRs := fun ds st Q => ∃ (ns : List Int) (x : Int) (j : Nat), ds = [rowD ns, .int x] ∧ ixOf x ns = some j ∧ Q (rowD (ns.take j)) st
theorem ar_ahead (ds : List D) (st : DSt) (Q : DK) (h : g_ahead ds st Q) : ds.length = 2 := by
  obtain ⟨_, _, _, rfl, _⟩ := h
  rfl
theorem sem_ahead (ds : List D) (st : DSt) (Q : DK) (h : g_ahead ds st Q) : F_slots_ahead { nx := fun _ st' => Rt st Q .non st', rt := Rt st Q } (startD 2 ds) st := by
  obtain ⟨ns, x, j, rfl, hj, q⟩ := h
  have st2 : startD 2 [rowD ns, D.int x] = [some (.tup (ns.map D.int)), some (.int x)] := rfl
  have ix : ixS st (.tup (ns.map D.int)) = some (ns.map D.int) := rfl
  simp only [F_slots_ahead, st2]
  try simp only [e_var, e_C, e_op, e_neg, e_isN, e_notN, e_and, e_or, e_not, e_test, e_tAnd, e_tOr, e_tNot, e_tYes, e_if, e_aNil, e_aCons, e_tup, e_lst, e_lstN, e_len0, e_len1, e_len2, e_len3, e_len4, e_len5, e_cb, e_on1, e_on2, e_onI, e_onB, e_onO, e_onO0, e_onOO, e_I0, e_I, e_add, e_addT, e_addS, e_addL, e_addLR, e_addRL, e_addRR, e_mul, e_mulL, e_mulT, e_rev, e_revT, e_ix, e_eqI, e_eqS, e_eqB, e_neI, e_neS, e_neB, e_ltI, e_chain, e_len, e_abs, e_2I, e_tuple1, e_tuple2, e_tuple3, e_listT, e_listN, e_allR, e_seqT, e_seqK, e_seqL, e_isi, e_isB, e_notB, e_truth, e_next, e_drop, e_ret, e_retN, e_ifS, e_set, e_asg, e_par, e_nm, e_gsN, e_gsC, e_gTpK, e_gTpL, e_sum, e_maxL, e_minL, e_maxDef, e_int, e_intB, e_aug, e_on3, e_par3, e_newK, e_getK, e_keyI, e_keyS, e_inK, e_ninK, e_putK, e_lenK, e_lstS, e_seqX, e_gTpT, e_oN, e_oS, e_sl, e_slT, e_slL, e_finT, e_finN, e_index, e_idxT, e_idxL, e_mIx, e_ixST, e_ixSL, e_mtL, e_w, e_w1, e_w2, e_wE, e_wZ, e_itK, e_itT, e_itL, e_itT2, e_itL2, e_lc, e_for, e_wipe0, e_wipe, e_okI, e_okR, e_gSb, List.getElem?_cons_zero, List.getElem?_cons_succ, List.set_cons_zero, List.set_cons_succ, ix, intsD_ints, hj]
  first
    | (refine ⟨trivial, ?_⟩)
    | skip
  rw [cutT, ← List.map_take]
  exact .inl q
def LayD (st : DSt) (sl : List Int) (d : D) : Prop := d = rowD sl ∨ ∃ w, d = .ref w ∧ st[w]? = some (.lst (sl.map D.int))
theorem LayD.ix {st : DSt} {sl : List Int} {d : D} (h : LayD st sl d) : IdxD st d ∧ ixS st d = some (sl.map D.int) := by
  rcases h with rfl | ⟨w, rfl, e⟩
  · exact ⟨trivial, rfl⟩
  · unfold IdxD ixS
    simp only [e]
    exact ⟨trivial, trivial⟩
section
variable {m n : Nat} {P : List (List Int)} {R : List (List (List Int))}
theorem take_mem (S : Setg m n P R) {k h s : Nat} (km : k < m) (hn : h < n) (sn : s < n) : (h : Int) ∈ (P.getD k []).take (rk P k s) ↔ rk P k h < rk P k s := by
  obtain ⟨e, l, _⟩ := S.rk_at km hn
  constructor
  · intro z
    obtain ⟨i, hi⟩ := List.mem_iff_getElem?.mp z
    rw [List.getElem?_take] at hi
    split at hi
    · have := nd_at (S.ord km).nd e hi
      omega
    · cases hi
  · intro z
    refine List.mem_iff_getElem?.mpr ⟨rk P k h, ?_⟩
    rw [List.getElem?_take, if_pos z]
    exact e
end
def g_would : DRs := fun ds st Q => ∃ (m n : Nat) (P : List (List Int)) (R : List (List (List Int))) (sl : List Int) (d : D) (k s h : Nat), ds = [rowsD P, d, .int (k : Nat), .int (h : Nat)] ∧ Setg m n P R ∧ Lay m n sl ∧ LayD st sl d ∧ At sl s k ∧ h < n ∧ Q (.bl (decide (rk P k h < rk P k s))) st
theorem ar_would (ds : List D) (st : DSt) (Q : DK) (h : g_would ds st Q) : ds.length = 4 := by
  obtain ⟨_, _, _, _, _, _, _, _, _, rfl, _⟩ := h
  rfl
theorem sem_would (ds : List D) (st : DSt) (Q : DK) (h : g_would ds st Q) : F_would_rather g_ahead { nx := fun _ st' => Rt st Q .non st', rt := Rt st Q } (startD 4 ds) st := by
  obtain ⟨m, n, P, R, sl, d, k, s, h, rfl, S, L, ld, a, hn, q⟩ := h
  obtain ⟨km, sn⟩ := L.key a
  have st4 : startD 4 [rowsD P, d, D.int (k : Nat), D.int (h : Nat)] = [some (.tup (P.map rowD)), some d, some (.int (k : Nat)), some (.int (h : Nat))] := rfl
  simp only [F_would_rather, st4]
  try simp only [e_var, e_C, e_op, e_neg, e_isN, e_notN, e_and, e_or, e_not, e_test, e_tAnd, e_tOr, e_tNot, e_tYes, e_if, e_aNil, e_aCons, e_tup, e_lst, e_lstN, e_len0, e_len1, e_len2, e_len3, e_len4, e_len5, e_cb, e_on1, e_on2, e_onI, e_onB, e_onO, e_onO0, e_onOO, e_I0, e_I, e_add, e_addT, e_addS, e_addL, e_addLR, e_addRL, e_addRR, e_mul, e_mulL, e_mulT, e_rev, e_revT, e_ix, e_eqI, e_eqS, e_eqB, e_neI, e_neS, e_neB, e_ltI, e_chain, e_len, e_abs, e_2I, e_tuple1, e_tuple2, e_tuple3, e_listT, e_listN, e_allR, e_seqT, e_seqK, e_seqL, e_isi, e_isB, e_notB, e_truth, e_next, e_drop, e_ret, e_retN, e_ifS, e_set, e_asg, e_par, e_nm, e_gsN, e_gsC, e_gTpK, e_gTpL, e_sum, e_maxL, e_minL, e_maxDef, e_int, e_intB, e_aug, e_on3, e_par3, e_newK, e_getK, e_keyI, e_keyS, e_inK, e_ninK, e_putK, e_lenK, e_lstS, e_seqX, e_gTpT, e_oN, e_oS, e_sl, e_slT, e_slL, e_finT, e_finN, e_index, e_idxT, e_idxL, e_mIx, e_ixST, e_ixSL, e_mtL, e_w, e_w1, e_w2, e_wE, e_wZ, e_itK, e_itT, e_itL, e_itT2, e_itL2, e_lc, e_for, e_wipe0, e_wipe, e_okI, e_okR, e_gSb, List.getElem?_cons_zero, List.getElem?_cons_succ, List.set_cons_zero, List.set_cons_succ, S.p_at km, ld.ix.2, intsD_ints, lay_ix L a]
  refine ⟨ld.ix.1, ?_⟩
  refine ⟨P.getD k [], (s : Int), rk P k s, rfl, (S.rk_at km sn).2.2, ?_⟩
  unfold rowD
  refine row_in ?_
  have e : decide ((h : Int) ∈ (P.getD k []).take (rk P k s)) = decide (rk P k h < rk P k s) := by
    rw [Bool.eq_iff_iff, decide_eq_true_eq, decide_eq_true_eq]
    exact take_mem S km hn sn
  rw [e]
  exact .inl q
end DL
namespace DL
open PySem PySem.Spec PyProof.Rows L2 LamX PySem.W SL
section
variable {m n : Nat} {P : List (List Int)} {R : List (List (List Int))}
end
end DL
namespace DL
open PySem PySem.Spec PyProof.Rows L2 LamX PySem.W SL
theorem clos_nL (n : Nat) : ∀ ws : List Nat, clos n (nL ws) = true
  | [] => rfl
  | x :: r => by
    show clos n (D.int (x : Nat) :: nL r) = true
    simp [clos, DL.clo, clos_nL n r]
end DL
namespace DL
open PySem PySem.Spec PyProof.Rows L2 LamX PySem.W SL
end DL
namespace DL
open PySem PySem.Spec PyProof.Rows L2 LamX PySem.W SL
def F_best (g_layout_of : DRs) (g_require_ordered : DRs) : DTS := (sSeq (sDrop (dCB g_require_ordered (daCons (dVar 1) daNil))) (sRet (dCB g_layout_of (daCons (dVar 0) (daCons (dVar 1) (daCons (dVar 2) daNil))))))
def F_next_key (g_require_ordered : DRs) (g_key_behind : DRs) : DTS := (sSeq (sDrop (dCB g_require_ordered (daCons (dVar 1) daNil))) (sRet (dCB g_key_behind (daCons (dVar 0) (daCons (dVar 1) (daCons (dVar 2) (daCons (dVar 3) daNil)))))))
def F_key_behind (g_strongest_asking : DRs) : DTS := (sSeq (sSet 4 (dLcG (wSeq (dOp dIx (dOp dIx (dVar 1) (dVar 3)) (dOp dIx (dVar 2) (dVar 3)))) (gNm 5) (dTest (dOp dIn (dVar 5) (dVar 2))) (dVar 5) [5] finT)) (sRet (dCB g_strongest_asking (daCons (dVar 0) (daCons (dVar 1) (daCons (dVar 2) (daCons (dVar 3) (daCons (dVar 4) daNil))))))))
def F__law_asked : DTS := (sSeq (sSet 3 (dLstN daNil)) (sSeq (sFor (wEnum (daCons (dVar 1) daNil)) (gTp 2 (gsCons (gNm 4) (gsCons (gNm 5) gsNil))) (sIf (dtAnd (dTest (dOp dGe (dVar 5) (dC (.int 0)))) (dTest (dOp dLe (dIndex (dOp dIx (dVar 0) (dVar 5)) (daCons (dVar 2) daNil)) (dIndex (dOp dIx (dVar 0) (dVar 5)) (daCons (dVar 4) daNil))))) (sDrop (dMtL mAppend (dVar 3) (daCons (dVar 5) daNil))) sNext)) (sRet (dVar 3))))
def F__law_other_probes (g__law_shuffled : DRs) : DTS := (sSeq (sSet 3 (dLstN daNil)) (sSeq (sFor (wEnum (daCons (dVar 1) daNil)) (gTp 2 (gsCons (gNm 4) (gsCons (gNm 5) gsNil))) (sSeq (sSet 6 (dIf (dTest (dOp dIn (dVar 4) (dVar 2))) (dOp dAdd (dIndex (dVar 5) (daCons (dIndex (dVar 2) (daCons (dVar 4) daNil)) daNil)) (dC (.int 1))) (dC (.int 0)))) (sDrop (dMtL mAppend (dVar 3) (daCons (dOp dAdd (dSlG finT (dVar 5) oNone (oSome (dVar 6))) (dCB g__law_shuffled (daCons (dVar 0) (daCons (dSlG finT (dVar 5) (oSome (dVar 6)) oNone) daNil)))) daNil))))) (sRet (dCB dTuple (daCons (dVar 3) daNil)))))
def F__law_other_order (g__law_take : DRs) : DTS := (sSeq (sSet 4 (dLcG (wSeq (dVar 1)) (gNm 3) (dTest (dOp dIn (dVar 3) (dVar 2))) (dVar 3) [3] finN)) (sSeq (sFor (wSeq (dVar 1)) (gNm 3) (sIf (dTest (dOp dNotIn (dVar 3) (dVar 2))) (sDrop (dMtL mInsert (dVar 4) (daCons (dCB g__law_take (daCons (dVar 0) (daCons (dOp dAdd (dCB dLen (daCons (dVar 4) daNil)) (dC (.int 1))) daNil))) (daCons (dVar 3) daNil)))) sNext)) (sRet (dCB dTuple (daCons (dVar 4) daNil)))))
def F__law_paths (g_insert : DRs) : DTS := (sSeq (sPar 3 4 (daCons (dOp dMul (dTup (daCons (dNeg (dC (.int 1))) daNil)) (dCB dLen (daCons (dVar 1) daNil))) (daCons (dLstN daNil) daNil))) (sSeq (sFor (wSeq (dVar 2)) (gNm 5) (sSeq (sAsg (dCB g_insert (daCons (dVar 0) (daCons (dVar 1) (daCons (dVar 3) (daCons (dVar 5) daNil))))) (gTp 2 (gsCons (gNm 3) (gsCons (gNm 6) gsNil)))) (sDrop (dMtL mAppend (dVar 4) (daCons (dVar 6) daNil))))) (sRet (dTup (daCons (dVar 3) (daCons (dVar 4) daNil))))))
def F__law_right_v27 (g_layout_of : DRs) (g_best : DRs) (g_next_key : DRs) (g_look_up : DRs) (g__law_take : DRs) (g__law_of : DRs) (g__law_shuffled : DRs) (g__law_drawn_probes : DRs) (g__law_drawn_orders : DRs) (g__law_rule_of : DRs) (g__law_asked : DRs) (g__law_other_probes : DRs) (g__law_other_order : DRs) (g__law_paths : DRs) : DTS := (sSeq (sAsg (dCB g__law_of (daCons (dVar 0) (daCons (dLst (daCons (dTup (daCons (dC (.int 4)) (daCons (dC (.int 4)) daNil))) (daCons (dTup (daCons (dC (.int 6)) (daCons (dC (.int 6)) daNil))) (daCons (dTup (daCons (dC (.int 3)) (daCons (dC (.int 3)) daNil))) (daCons (dTup (daCons (dC (.int 12)) (daCons (dC (.int 12)) daNil))) (daCons (dTup (daCons (dC (.int 8)) (daCons (dC (.int 6)) daNil))) (daCons (dTup (daCons (dC (.int 2)) (daCons (dC (.int 4)) daNil))) (daCons (dTup (daCons (dC (.int 12)) (daCons (dC (.int 13)) daNil))) daNil)))))))) daNil))) (gTp 2 (gsCons (gNm 1) (gsCons (gNm 2) gsNil)))) (sSeq (sSet 3 (dCB g__law_drawn_probes (daCons (dVar 0) (daCons (dVar 1) (daCons (dVar 2) daNil))))) (sSeq (sSet 4 (dCB g__law_drawn_orders (daCons (dVar 0) (daCons (dVar 3) daNil)))) (sSeq (sPar 5 6 (daCons (dCB g__law_rule_of (daCons (dVar 4) daNil)) (daCons (dSlG finT (dCB g__law_shuffled (daCons (dVar 0) (daCons (dLRg1 finT (dVar 1)) daNil))) oNone (oSome (dOp dAdd (dC (.int 1)) (dCB g__law_take (daCons (dVar 0) (daCons (dCB dMin2 (daCons (dVar 1) (daCons (dVar 2) daNil))) daNil)))))) daNil))) (sSeq (sSet 7 (dCB g_layout_of (daCons (dVar 3) (daCons (dVar 5) (daCons (dVar 6) daNil))))) (sSeq (sSet 8 (dLstN daNil)) (sSeq (sFor (wEnum (daCons (dVar 4) daNil)) (gTp 2 (gsCons (gNm 9) (gsCons (gNm 10) gsNil))) (sDrop (dMtL mAppend (dVar 8) (daCons (dCB g__law_other_order (daCons (dVar 0) (daCons (dVar 10) (daCons (dCB g__law_asked (daCons (dVar 3) (daCons (dVar 7) (daCons (dVar 9) daNil)))) daNil)))) daNil)))) (sSeq (sPar 11 12 (daCons (dCB g__law_other_probes (daCons (dVar 0) (daCons (dVar 3) (daCons (dVar 7) daNil)))) (daCons (dCB g__law_rule_of (daCons (dCB dTuple (daCons (dVar 8) daNil)) daNil)) daNil))) (sSeq (sIf (dTest (dOp dNe (dCB g__law_paths (daCons (dVar 11) (daCons (dVar 12) (daCons (dVar 6) daNil)))) (dCB g__law_paths (daCons (dVar 3) (daCons (dVar 5) (daCons (dVar 6) daNil)))))) (sRet (dC (.bl false))) sNext) (sSeq (sPar 13 14 (daCons (dCB g__law_shuffled (daCons (dVar 0) (daCons (dVar 6) daNil))) (daCons (dCB dTuple (daCons (dCB (dSortI finT) (daCons (dVar 6) daNil)) daNil)) daNil))) (sSeq (sIf (dtOr (dTest (dOp dNe (dCB g_layout_of (daCons (dVar 11) (daCons (dVar 12) (daCons (dVar 13) daNil)))) (dVar 7))) (dTest (dOp dNe (dCB g_best (daCons (dVar 11) (daCons (dVar 12) (daCons (dVar 14) daNil)))) (dVar 7)))) (sRet (dC (.bl false))) sNext) (sSeq (sFor (wSeq (dVar 6)) (gNm 15) (sIf (dTest (dOp dNe (dCB g_look_up (daCons (dVar 11) (daCons (dVar 12) (daCons (dVar 7) (daCons (dVar 15) daNil))))) (dCB g_look_up (daCons (dVar 3) (daCons (dVar 5) (daCons (dVar 7) (daCons (dVar 15) daNil))))))) (sRet (dC (.bl false))) sNext)) (sSeq (sFor (wRng1 (daCons (dVar 2) daNil)) (gNm 9) (sIf (dTest (dOp dGe (dOp dIx (dVar 7) (dVar 9)) (dC (.int 0)))) (sSeq (sSet 16 (dCB g_next_key (daCons (dVar 3) (daCons (dVar 5) (daCons (dVar 7) (daCons (dVar 9) daNil)))))) (sSeq (sIf (dTest (dOp dNe (dVar 16) (dCB g_next_key (daCons (dVar 11) (daCons (dVar 12) (daCons (dVar 7) (daCons (dVar 9) daNil))))))) (sRet (dC (.bl false))) sNext) (sIf (dtAnd (dTest (dOp dGe (dVar 16) (dC (.int 0)))) (dTest (dOp dNotIn (dVar 16) (dCB g__law_asked (daCons (dVar 3) (daCons (dVar 7) (daCons (dVar 9) daNil))))))) (sRet (dC (.bl false))) sNext))) sNext)) (sRet (dC (.bl true))))))))))))))))
def F_law_v10 (g__law_pot_of : DRs) (g__law_right : DRs) : DTS := (sSeq (sFor (wRng1 (daCons (dCB dMax2 (daCons (dC (.int 1)) (daCons (dCB dMin2 (daCons (dC (.int 2)) (daCons (dCB dLen (daCons (dVar 0) daNil)) daNil))) daNil))) daNil)) (gNm 1) (sSeq (sSet 2 (dCB g__law_pot_of (daCons (dVar 0) (daCons (dVar 1) daNil)))) (sIf (dtNot (dTest (dCB dAll (daCons (dLcG (wRng1 (daCons (dC (.int 3)) daNil)) (gNm 3) dtYes (dCB g__law_right (daCons (dVar 2) daNil)) [3] finT) daNil)))) (sRet (dC (.bl false))) sNext))) (sRet (dC (.bl true))))
end DL
namespace DL
open PySem PySem.Spec PyProof.Rows L2 LamX PySem.W SL
section
variable {m n : Nat} {P P2 : List (List Int)} {R R2 : List (List (List Int))} {L : List Int}
def Asks (P : List (List Int)) (L : List Int) (k j : Nat) : Prop := ∃ u, At L u k ∧ j ≤ rk P k u
structure Alike (n : Nat) (P : List (List Int)) (R : List (List (List Int))) (P2 : List (List Int)) (R2 : List (List (List Int))) (L : List Int) : Prop where
  p : ∀ k j, Asks P L k j → pr P2 k j = pr P k j
  r : ∀ s a b, s < n → Asks P L a (rk P a s) → Asks P L b (rk P b s) → bt R2 s a b = bt R s a b
theorem Alike.rk (S : Setg m n P R) (S2 : Setg m n P2 R2) (A : Alike n P R P2 R2 L) {k s : Nat} (km : k < m) (sn : s < n) (h : Asks P L k (rk P k s)) : DL.rk P2 k s = DL.rk P k s := by
  have e := A.p k _ h
  rw [S.pr_rk km sn] at e
  have z := S2.rk_pr km (S.rk_at km sn).2.1
  rw [e] at z
  exact z
theorem insG_same (S : Setg m n P R) (S2 : Setg m n P2 R2) (T : Trn m n R) (A : Alike n P R P2 R2 L) : ∀ (f : Nat) (sl : List Int) (a i : Nat) (L1 : List Int) (p : List (Nat × Nat)), Go m n P sl a i → insG P R f sl a i = some (L1, p) → (∀ k s, At L1 s k → Asks P L k (DL.rk P k s)) → insG P2 R2 f sl a i = some (L1, p)
  | 0, sl, a, i, L1, p, G, h, _ => by cases h
  | f + 1, sl, a, i, L1, p, G, h, up => by
    obtain ⟨F, u, hu, iu⟩ := insG_later S T _ _ _ _ _ _ G h
    have le : ∀ {k j j2}, Asks P L k j2 → j ≤ j2 → Asks P L k j := fun ⟨w, a, b⟩ c => ⟨w, a, Nat.le_trans c b⟩
    have ai := le (up a u hu) iu
    have e := A.p a i ai
    have sn := (S.pr_at G.ha G.hi).2
    rcases G.g.lay.either sn with em | ⟨k, tk⟩
    · rw [insG_free em] at h
      rw [insG_free (by rw [e]; exact em), e]
      exact h
    · have km := (G.g.lay.key tk).1
      obtain ⟨w, hw, lw⟩ := F.key _ k tk
      have ak := le (up k w hw) lw
      have ra := S.rk_pr G.ha G.hi
      have eb := A.r (pr P a i) a k sn (by rw [ra]; exact ai) ak
      have ek := A.rk S S2 km sn ak
      rw [insG_taken tk] at h
      rw [insG_taken (by rw [e]; exact tk), e, eb, ek]
      by_cases c : bt R (pr P a i) a k = true
      · rw [if_pos c] at h ⊢
        cases z : insG P R f (sl.set (pr P a i) (a : Int)) k (DL.rk P k (pr P a i) + 1) with
        | none => rw [z] at h; cases h
        | some x =>
          rw [z] at h
          obtain ⟨x1, x2⟩ := x
          cases h
          rw [insG_same S S2 T A f _ _ _ _ _ (G.swap S tk) z up]
          rfl
      · rw [if_neg c] at h ⊢
        exact insG_same S S2 T A f _ _ _ _ _ (G.on S tk) h up
def LaterK (P : List (List Int)) (sl L : List Int) : Prop := ∀ s k, At sl s k → Asks P L k (DL.rk P k s)
theorem LaterK.trans {a b c : List Int} (h1 : LaterK P a b) (h2 : LaterK P b c) : LaterK P a c := fun s k hk => by
  obtain ⟨u, hu, lu⟩ := h1 s k hk
  obtain ⟨w, hw, lw⟩ := h2 u k hu
  exact ⟨w, hw, Nat.le_trans lu lw⟩
theorem lay_laterK (S : Setg m n P R) (T : Trn m n R) : ∀ (left dn : List Nat), Hist m n (dn ++ left) → LaterK P (layF P R dn) (layF P R (dn ++ left))
  | [], dn, _ => by rw [List.append_nil]; exact fun s k hk => ⟨s, hk, Nat.le_refl _⟩
  | a :: left, dn, H => by
    have G := hist_go S H
    have F := ins_later S T G
    rw [← layF_snoc] at F
    have e : dn ++ a :: left = (dn ++ [a]) ++ left := by simp
    rw [e] at H ⊢
    exact LaterK.trans (fun s k hk => F.key s k hk) (lay_laterK S T left (dn ++ [a]) H)
def pathsG (P : List (List Int)) (R : List (List (List Int))) : List Int → List Nat → List (List (Nat × Nat))
  | _, [] => []
  | sl, a :: h => (ins P R sl a).2 :: pathsG P R (ins P R sl a).1 h
def pathsF (P : List (List Int)) (R : List (List (List Int))) (h : List Nat) : List (List (Nat × Nat)) := pathsG P R (emp R.length) h
theorem run_same (S : Setg m n P R) (S2 : Setg m n P2 R2) (T : Trn m n R) {h : List Nat} (H : Hist m n h) (A : Alike n P R P2 R2 (layF P R h)) : ∀ (left dn : List Nat), dn ++ left = h → layF P2 R2 dn = layF P R dn → pathsG P2 R2 (layF P R dn) left = pathsG P R (layF P R dn) left ∧ layF P2 R2 h = layF P R h
  | [], dn, e, el => by
    rw [List.append_nil] at e
    subst e
    exact ⟨rfl, el⟩
  | a :: left, dn, e, el => by
    have H' : Hist m n (dn ++ a :: left) := by rw [e]; exact H
    have G := hist_go S H'
    have G2 := hist_go S2 H'
    rw [el] at G2
    have e2 : (dn ++ [a]) ++ left = h := by rw [← e]; simp
    have up := lay_laterK S T left (dn ++ [a]) (by rw [e2]; exact H)
    rw [e2] at up
    have q := ins_eq S G
    have es : layF P R (dn ++ [a]) = (ins P R (layF P R dn) a).1 := layF_snoc
    rw [es] at up
    have q2 := insG_same S S2 T A _ _ _ _ _ _ G (show insG P R _ _ _ _ = some ((ins P R (layF P R dn) a).1, (ins P R (layF P R dn) a).2) from q) (fun k s z => up s k z)
    have i2 := ins_of S2 G2 q2
    have el2 : layF P2 R2 (dn ++ [a]) = layF P R (dn ++ [a]) := by
      rw [layF_snoc, el, i2, es]
    obtain ⟨r1, r2⟩ := run_same S S2 T H A left (dn ++ [a]) e2 el2
    rw [es] at r1
    refine ⟨?_, r2⟩
    show (ins P2 R2 (layF P R dn) a).2 :: pathsG P2 R2 (ins P2 R2 (layF P R dn) a).1 left = (ins P R (layF P R dn) a).2 :: pathsG P R (ins P R (layF P R dn) a).1 left
    rw [i2]
    show (ins P R (layF P R dn) a).2 :: pathsG P2 R2 (ins P R (layF P R dn) a).1 left = _
    rw [r1]
theorem whole_same (S : Setg m n P R) (S2 : Setg m n P2 R2) (T : Trn m n R) {h : List Nat} (H : Hist m n h) (A : Alike n P R P2 R2 (layF P R h)) : layF P2 R2 h = layF P R h ∧ pathsF P2 R2 h = pathsF P R h := by
  have e0 : layF P2 R2 [] = layF P R [] := by rw [lay_nil, lay_nil, S.rl, S2.rl]
  obtain ⟨a, b⟩ := run_same S S2 T H A h [] rfl e0
  refine ⟨b, ?_⟩
  unfold pathsF
  rw [S2.rl]
  rw [lay_nil, S.rl] at a
  rw [S.rl]
  exact a
def WantsK (P : List (List Int)) (ks : List Nat) (sl : List Int) (h k s : Nat) : Prop := k ∈ ks ∧ Wants P sl h k s
def BestK (P : List (List Int)) (R : List (List (List Int))) (ks : List Nat) (sl : List Int) (h v s : Nat) : Prop := WantsK P ks sl h v s ∧ ∀ k t, WantsK P ks sl h k t → k = v ∨ bt R h v k = true
theorem bestK_one (S : Setg m n P R) {ks : List Nat} {sl : List Int} (Ly : Lay m n sl) {h v s v2 s2 : Nat} (hn : h < n) (b1 : BestK P R ks sl h v s) (b2 : BestK P R ks sl h v2 s2) : v = v2 := by
  have k1 := Ly.key b1.1.2.1
  have k2 := Ly.key b2.1.2.1
  apply Classical.byContradiction
  intro ne
  have w1 := (b1.2 v2 s2 b2.1).resolve_left (fun z => ne z.symm)
  have w2 := (b2.2 v s b1.1).resolve_left ne
  have := S.bt_not hn k1.1 k2.1 ne
  rw [w1, w2] at this
  cases this
theorem wants_same (S : Setg m n P R) (S2 : Setg m n P2 R2) (Ly : Lay m n L) (A : Alike n P R P2 R2 L) {s k t : Nat} (sn : s < n) : Wants P2 L s k t ↔ Wants P L s k t := by
  unfold Wants
  constructor
  · rintro ⟨a, lt⟩
    obtain ⟨km, tn⟩ := Ly.key a
    have et := A.rk S S2 km tn ⟨t, a, Nat.le_refl _⟩
    rw [et] at lt
    have e := A.p k (DL.rk P2 k s) ⟨t, a, Nat.le_of_lt lt⟩
    rw [S2.pr_rk km sn] at e
    have z := S.rk_pr km (S2.rk_at km sn).2.1
    rw [← e] at z
    exact ⟨a, by rw [z]; exact lt⟩
  · rintro ⟨a, lt⟩
    obtain ⟨km, tn⟩ := Ly.key a
    have et := A.rk S S2 km tn ⟨t, a, Nat.le_refl _⟩
    have es := A.rk S S2 km sn ⟨t, a, Nat.le_of_lt lt⟩
    exact ⟨a, by rw [et, es]; exact lt⟩
theorem best_same (S : Setg m n P R) (S2 : Setg m n P2 R2) (Ly : Lay m n L) (A : Alike n P R P2 R2 L) {ks ks2 : List Nat} {c s v t : Nat} (hc : At L s c) (m1 : ∀ k, k ∈ ks ↔ bt R s c k = true ∧ ∃ u, At L u k) (m2 : ∀ k, k ∈ ks2 ↔ bt R2 s c k = true ∧ ∃ u, At L u k) : BestK P2 R2 ks2 L s v t ↔ BestK P R ks L s v t := by
  have sn := (Ly.key hc).2
  have ac : Asks P L c (DL.rk P c s) := ⟨s, hc, Nat.le_refl _⟩
  have aw : ∀ {k t}, Wants P L s k t → Asks P L k (DL.rk P k s) := fun w => ⟨_, w.1, Nat.le_of_lt w.2⟩
  have wk : ∀ k t, WantsK P2 ks2 L s k t ↔ WantsK P ks L s k t := fun k t => by
    unfold WantsK
    rw [wants_same S S2 Ly A sn, m1, m2]
    constructor
    · rintro ⟨⟨b, x⟩, w⟩
      rw [A.r s c k sn ac (aw w)] at b
      exact ⟨⟨b, x⟩, w⟩
    · rintro ⟨⟨b, x⟩, w⟩
      rw [← A.r s c k sn ac (aw w)] at b
      exact ⟨⟨b, x⟩, w⟩
  unfold BestK
  rw [wk]
  constructor
  · rintro ⟨w, all⟩
    refine ⟨w, fun k t2 w2 => ?_⟩
    have z := all k t2 ((wk k t2).mpr w2)
    rw [A.r s v k sn (aw w.2) (aw w2.2)] at z
    exact z
  · rintro ⟨w, all⟩
    refine ⟨w, fun k t2 w2 => ?_⟩
    have w3 := (wk k t2).mp w2
    have z := all k t2 w3
    rw [← A.r s v k sn (aw w.2) (aw w3.2)] at z
    exact z
end
end DL
namespace DL
open PySem PySem.Spec PyProof.Rows L2 LamX PySem.W SL
def g_best : DRs := fun ds st Q => ∃ (m n : Nat) (P : List (List Int)) (R : List (List (List Int))) (h : List Nat), ds = [rowsD P, tabsD R, histD h] ∧ Setg m n P R ∧ (∀ t ∈ R, noRing t = true) ∧ m ≤ 60 ∧ n ≤ 60 ∧ 0 < n ∧ Hist m n h ∧ Q (rowD (layF P R h)) st
theorem ar_best (ds : List D) (st : DSt) (Q : DK) (h : g_best ds st Q) : ds.length = 3 := by
  obtain ⟨_, _, _, _, _, rfl, _⟩ := h
  rfl
theorem sem_best (ds : List D) (st : DSt) (Q : DK) (h : g_best ds st Q) : F_best g_layout g_reqO { nx := fun _ st' => Rt st Q .non st', rt := Rt st Q } (startD 3 ds) st := by
  obtain ⟨m, n, P, R, h, rfl, S, all, m60, n60, n0, H, q⟩ := h
  have st3 : startD 3 [rowsD P, tabsD R, histD h] = [some (rowsD P), some (tabsD R), some (histD h)] := rfl
  simp only [F_best, st3]
  try dsimp only
  rw [e_seq]
  try simp only [e_var, e_C, e_op, e_neg, e_isN, e_notN, e_and, e_or, e_not, e_test, e_tAnd, e_tOr, e_tNot, e_tYes, e_if, e_aNil, e_aCons, e_tup, e_lst, e_lstN, e_len0, e_len1, e_len2, e_len3, e_len4, e_len5, e_cb, e_on1, e_on2, e_onI, e_onB, e_onO, e_onO0, e_onOO, e_I0, e_I, e_add, e_addT, e_addS, e_addL, e_addLR, e_addRL, e_addRR, e_mul, e_mulL, e_mulT, e_rev, e_revT, e_ix, e_eqI, e_eqS, e_eqB, e_neI, e_neS, e_neB, e_ltI, e_chain, e_len, e_abs, e_2I, e_tuple1, e_tuple2, e_tuple3, e_listT, e_listN, e_allR, e_seqT, e_seqK, e_seqL, e_isi, e_isB, e_notB, e_truth, e_next, e_drop, e_ret, e_retN, e_ifS, e_set, e_asg, e_par, e_nm, e_gsN, e_gsC, e_gTpK, e_gTpL, e_sum, e_maxL, e_minL, e_maxDef, e_int, e_intB, e_aug, e_on3, e_par3, e_newK, e_getK, e_keyI, e_keyS, e_inK, e_ninK, e_putK, e_lenK, e_lstS, e_seqX, e_gTpT, e_oN, e_oS, e_sl, e_slT, e_slL, e_finT, e_finN, e_index, e_idxT, e_idxL, e_mIx, e_ixST, e_ixSL, e_mtL, e_w, e_w1, e_w2, e_wE, e_wZ, e_itK, e_itT, e_itL, e_itT2, e_itL2, e_lc, e_for, e_wipe0, e_wipe, e_okI, e_okR, e_gSb, List.getElem?_cons_zero, List.getElem?_cons_succ, List.set_cons_zero, List.set_cons_succ]
  refine ⟨m, R, rfl, by rw [S.rl]; omega, m60, fun t ht => ⟨S.rt t ht, all t ht⟩, ?_⟩
  try simp only [e_var, e_C, e_op, e_neg, e_isN, e_notN, e_and, e_or, e_not, e_test, e_tAnd, e_tOr, e_tNot, e_tYes, e_if, e_aNil, e_aCons, e_tup, e_lst, e_lstN, e_len0, e_len1, e_len2, e_len3, e_len4, e_len5, e_cb, e_on1, e_on2, e_onI, e_onB, e_onO, e_onO0, e_onOO, e_I0, e_I, e_add, e_addT, e_addS, e_addL, e_addLR, e_addRL, e_addRR, e_mul, e_mulL, e_mulT, e_rev, e_revT, e_ix, e_eqI, e_eqS, e_eqB, e_neI, e_neS, e_neB, e_ltI, e_chain, e_len, e_abs, e_2I, e_tuple1, e_tuple2, e_tuple3, e_listT, e_listN, e_allR, e_seqT, e_seqK, e_seqL, e_isi, e_isB, e_notB, e_truth, e_next, e_drop, e_ret, e_retN, e_ifS, e_set, e_asg, e_par, e_nm, e_gsN, e_gsC, e_gTpK, e_gTpL, e_sum, e_maxL, e_minL, e_maxDef, e_int, e_intB, e_aug, e_on3, e_par3, e_newK, e_getK, e_keyI, e_keyS, e_inK, e_ninK, e_putK, e_lenK, e_lstS, e_seqX, e_gTpT, e_oN, e_oS, e_sl, e_slT, e_slL, e_finT, e_finN, e_index, e_idxT, e_idxL, e_mIx, e_ixST, e_ixSL, e_mtL, e_w, e_w1, e_w2, e_wE, e_wZ, e_itK, e_itT, e_itL, e_itT2, e_itL2, e_lc, e_for, e_wipe0, e_wipe, e_okI, e_okR, e_gSb, List.getElem?_cons_zero, List.getElem?_cons_succ, List.set_cons_zero, List.set_cons_succ]
  exact ⟨m, n, P, R, h, rfl, S, m60, n60, n0, H, .inl q⟩
def g_strongK : DRs := fun ds st Q => ∃ (m n : Nat) (P : List (List Int)) (R : List (List (List Int))) (sl : List Int) (d : D) (h : Nat) (ks : List Nat) (x : D), ds = [rowsD P, tabsD R, d, .int (h : Nat), x] ∧ (x = .tup (nL ks) ∨ x = .lst (nL ks)) ∧ Setg m n P R ∧ (∀ t ∈ R, noRing t = true) ∧ Lay m n sl ∧ LayD st sl d ∧ h < n ∧ ks.length ≤ 1000 ∧
  (∀ k ∈ ks, ∃ s, At sl s k) ∧ ((∀ k s, ¬ WantsK P ks sl h k s) → Q (.int (-1)) st) ∧ ∀ v s, BestK P R ks sl h v s → Q (.int (v : Nat)) st
theorem ar_strongK (ds : List D) (st : DSt) (Q : DK) (h : g_strongK ds st Q) : ds.length = 5 := by
  obtain ⟨_, _, _, _, _, _, _, _, _, rfl, _⟩ := h
  rfl
set_option maxHeartbeats 4000000 in
theorem sem_strongK (ds : List D) (st : DSt) (Q : DK) (h : g_strongK ds st Q) : F_strongest_asking g_would { nx := fun _ st' => Rt st Q .non st', rt := Rt st Q } (startD 7 ds) st := by
  obtain ⟨m, n, P, R, sl, d, h, ks, x0, rfl, hx0, S, all, L, ld, hn, few, at1, q0, q1⟩ := h
  have st7 : startD 7 [rowsD P, tabsD R, d, D.int (h : Nat), x0] = [some (.tup (P.map rowD)), some (.tup (R.map rowsD)), some d, some (.int (h : Nat)), some x0, none, none] := rfl
  have itx : itOf st x0 = some ⟨nL ks, none⟩ := by rcases hx0 with rfl | rfl <;> rfl
  have big : (1000 : Nat) ≤ sizeLine := by decide
  have tb := S.tb hn
  have no : noRing (R.getD h []) = true := all _ (getD_memL (by rw [S.rl]; exact hn))
  simp only [F_strongest_asking, st7]
  try dsimp only
  rw [e_seq]
  try simp only [e_var, e_C, e_op, e_neg, e_isN, e_notN, e_and, e_or, e_not, e_test, e_tAnd, e_tOr, e_tNot, e_tYes, e_if, e_aNil, e_aCons, e_tup, e_lst, e_lstN, e_len0, e_len1, e_len2, e_len3, e_len4, e_len5, e_cb, e_on1, e_on2, e_onI, e_onB, e_onO, e_onO0, e_onOO, e_I0, e_I, e_add, e_addT, e_addS, e_addL, e_addLR, e_addRL, e_addRR, e_mul, e_mulL, e_mulT, e_rev, e_revT, e_ix, e_eqI, e_eqS, e_eqB, e_neI, e_neS, e_neB, e_ltI, e_chain, e_len, e_abs, e_2I, e_tuple1, e_tuple2, e_tuple3, e_listT, e_listN, e_allR, e_seqT, e_seqK, e_seqL, e_isi, e_isB, e_notB, e_truth, e_next, e_drop, e_ret, e_retN, e_ifS, e_set, e_asg, e_par, e_nm, e_gsN, e_gsC, e_gTpK, e_gTpL, e_sum, e_maxL, e_minL, e_maxDef, e_int, e_intB, e_aug, e_on3, e_par3, e_newK, e_getK, e_keyI, e_keyS, e_inK, e_ninK, e_putK, e_lenK, e_lstS, e_seqX, e_gTpT, e_oN, e_oS, e_sl, e_slT, e_slL, e_finT, e_finN, e_index, e_idxT, e_idxL, e_mIx, e_ixST, e_ixSL, e_mtL, e_w, e_w1, e_w2, e_wE, e_wZ, e_itK, e_itT, e_itL, e_itT2, e_itL2, e_lc, e_for, e_wipe0, e_wipe, e_okI, e_okR, e_gSb, List.getElem?_cons_zero, List.getElem?_cons_succ, List.set_cons_zero, List.set_cons_succ, itx]
  have ll : (nL ks).length = ks.length := by unfold nL; rw [List.length_map]
  refine ⟨by rw [ll]; omega, ?_⟩
  let wb : Nat → Bool := fun k => decide (rk P k h < rk P k (pos sl (k : Int)))
  have pl : ∀ k s, At sl s k → pos sl (k : Int) = s := fun k s a => by
    have e := lay_ix L a
    unfold pos
    rw [e]
    rfl
  have wbw : ∀ k s, At sl s k → (wb k = true ↔ Wants P sl h k s) := fun k s a => by
    show decide (rk P k h < rk P k (pos sl (k : Int))) = true ↔ _
    rw [pl k s a, decide_eq_true_eq]
    exact ⟨fun z => ⟨a, z⟩, fun z => z.2⟩
  have lf := List.length_filter_le wb ks
  have ef : (nL ks).filter (fun d => match d with | .int i => wb i.toNat | _ => false) = nL (ks.filter wb) := by
    unfold nL
    rw [List.filter_map]
    rfl
  refine lc_if (fun d => match d with | .int i => wb i.toNat | _ => false) id (fun d' hd Q' q' => ?_) (fun d' hd _ Q' q' => ?_) ?_
  · obtain ⟨k, hk, rfl⟩ := List.mem_map.mp hd
    obtain ⟨s, a⟩ := at1 k hk
    try simp only [e_var, e_C, e_op, e_neg, e_isN, e_notN, e_and, e_or, e_not, e_test, e_tAnd, e_tOr, e_tNot, e_tYes, e_if, e_aNil, e_aCons, e_tup, e_lst, e_lstN, e_len0, e_len1, e_len2, e_len3, e_len4, e_len5, e_cb, e_on1, e_on2, e_onI, e_onB, e_onO, e_onO0, e_onOO, e_I0, e_I, e_add, e_addT, e_addS, e_addL, e_addLR, e_addRL, e_addRR, e_mul, e_mulL, e_mulT, e_rev, e_revT, e_ix, e_eqI, e_eqS, e_eqB, e_neI, e_neS, e_neB, e_ltI, e_chain, e_len, e_abs, e_2I, e_tuple1, e_tuple2, e_tuple3, e_listT, e_listN, e_allR, e_seqT, e_seqK, e_seqL, e_isi, e_isB, e_notB, e_truth, e_next, e_drop, e_ret, e_retN, e_ifS, e_set, e_asg, e_par, e_nm, e_gsN, e_gsC, e_gTpK, e_gTpL, e_sum, e_maxL, e_minL, e_maxDef, e_int, e_intB, e_aug, e_on3, e_par3, e_newK, e_getK, e_keyI, e_keyS, e_inK, e_ninK, e_putK, e_lenK, e_lstS, e_seqX, e_gTpT, e_oN, e_oS, e_sl, e_slT, e_slL, e_finT, e_finN, e_index, e_idxT, e_idxL, e_mIx, e_ixST, e_ixSL, e_mtL, e_w, e_w1, e_w2, e_wE, e_wZ, e_itK, e_itT, e_itL, e_itT2, e_itL2, e_lc, e_for, e_wipe0, e_wipe, e_okI, e_okR, e_gSb, List.getElem?_cons_zero, List.getElem?_cons_succ, List.set_cons_zero, List.set_cons_succ]
    refine ⟨m, n, P, R, sl, d, k, s, h, rfl, S, L, ld, a, hn, ?_⟩
    have e : wb k = decide (rk P k h < rk P k s) := by
      show decide (rk P k h < rk P k (pos sl (k : Int))) = _
      rw [pl k s a]
    rw [← e]
    exact q'
  · obtain ⟨k, hk, rfl⟩ := List.mem_map.mp hd
    try simp only [e_var, e_C, e_op, e_neg, e_isN, e_notN, e_and, e_or, e_not, e_test, e_tAnd, e_tOr, e_tNot, e_tYes, e_if, e_aNil, e_aCons, e_tup, e_lst, e_lstN, e_len0, e_len1, e_len2, e_len3, e_len4, e_len5, e_cb, e_on1, e_on2, e_onI, e_onB, e_onO, e_onO0, e_onOO, e_I0, e_I, e_add, e_addT, e_addS, e_addL, e_addLR, e_addRL, e_addRR, e_mul, e_mulL, e_mulT, e_rev, e_revT, e_ix, e_eqI, e_eqS, e_eqB, e_neI, e_neS, e_neB, e_ltI, e_chain, e_len, e_abs, e_2I, e_tuple1, e_tuple2, e_tuple3, e_listT, e_listN, e_allR, e_seqT, e_seqK, e_seqL, e_isi, e_isB, e_notB, e_truth, e_next, e_drop, e_ret, e_retN, e_ifS, e_set, e_asg, e_par, e_nm, e_gsN, e_gsC, e_gTpK, e_gTpL, e_sum, e_maxL, e_minL, e_maxDef, e_int, e_intB, e_aug, e_on3, e_par3, e_newK, e_getK, e_keyI, e_keyS, e_inK, e_ninK, e_putK, e_lenK, e_lstS, e_seqX, e_gTpT, e_oN, e_oS, e_sl, e_slT, e_slL, e_finT, e_finN, e_index, e_idxT, e_idxL, e_mIx, e_ixST, e_ixSL, e_mtL, e_w, e_w1, e_w2, e_wE, e_wZ, e_itK, e_itT, e_itL, e_itT2, e_itL2, e_lc, e_for, e_wipe0, e_wipe, e_okI, e_okR, e_gSb, List.getElem?_cons_zero, List.getElem?_cons_succ, List.set_cons_zero, List.set_cons_succ]
    exact q'
  rw [ef, List.map_id]
  refine fin_lst ?_
  have fm : ∀ k, k ∈ ks.filter wb ↔ ∃ s, WantsK P ks sl h k s := fun k => by
    rw [List.mem_filter]
    constructor
    · rintro ⟨hk, w⟩
      obtain ⟨s, a⟩ := at1 k hk
      exact ⟨s, hk, (wbw k s a).mp w⟩
    · rintro ⟨s, w⟩
      exact ⟨w.1, (wbw k s w.2.1).mpr w.2⟩
  generalize ks.filter wb = ws at fm lf
  unfold dMaxKey
  try simp only [e_var, e_C, e_op, e_neg, e_isN, e_notN, e_and, e_or, e_not, e_test, e_tAnd, e_tOr, e_tNot, e_tYes, e_if, e_aNil, e_aCons, e_tup, e_lst, e_lstN, e_len0, e_len1, e_len2, e_len3, e_len4, e_len5, e_cb, e_on1, e_on2, e_onI, e_onB, e_onO, e_onO0, e_onOO, e_I0, e_I, e_add, e_addT, e_addS, e_addL, e_addLR, e_addRL, e_addRR, e_mul, e_mulL, e_mulT, e_rev, e_revT, e_ix, e_eqI, e_eqS, e_eqB, e_neI, e_neS, e_neB, e_ltI, e_chain, e_len, e_abs, e_2I, e_tuple1, e_tuple2, e_tuple3, e_listT, e_listN, e_allR, e_seqT, e_seqK, e_seqL, e_isi, e_isB, e_notB, e_truth, e_next, e_drop, e_ret, e_retN, e_ifS, e_set, e_asg, e_par, e_nm, e_gsN, e_gsC, e_gTpK, e_gTpL, e_sum, e_maxL, e_minL, e_maxDef, e_int, e_intB, e_aug, e_on3, e_par3, e_newK, e_getK, e_keyI, e_keyS, e_inK, e_ninK, e_putK, e_lenK, e_lstS, e_seqX, e_gTpT, e_oN, e_oS, e_sl, e_slT, e_slL, e_finT, e_finN, e_index, e_idxT, e_idxL, e_mIx, e_ixST, e_ixSL, e_mtL, e_w, e_w1, e_w2, e_wE, e_wZ, e_itK, e_itT, e_itL, e_itT2, e_itL2, e_lc, e_for, e_wipe0, e_wipe, e_okI, e_okR, e_gSb, List.getElem?_cons_zero, List.getElem?_cons_succ, List.set_cons_zero, List.set_cons_succ]
  refine ⟨hI ws, by rw [nL_ints], fun i => (((R.getD h []).getD (ws.getD i 0) []).length : Int), fun i x hx => ?_, fun e => ?_, fun i x hx best => ?_⟩
  · have hx' : ws[i]? = some (ws.getD i 0) ∧ x = ((ws.getD i 0 : Nat) : Int) := by
      unfold hI at hx
      rw [List.getElem?_map] at hx
      cases e : ws[i]? with
      | none => rw [e] at hx; cases hx
      | some y =>
        rw [e] at hx
        cases hx
        rw [List.getD_eq_getElem?_getD, e]
        exact ⟨rfl, rfl⟩
    obtain ⟨e1, rfl⟩ := hx'
    obtain ⟨s, w⟩ := (fm _).mp (List.mem_of_getElem? e1)
    have km := (L.key w.2.1).1
    show _ = some (D.int (((R.getD h []).getD (ws.getD i 0) []).length : Int))
    generalize ws.getD i 0 = k at km
    have e0 : pIx (pVar 1) (pVar 3) ([some (.tup (P.map rowD)), some (.tup (R.map rowsD)), some d, some (.int (h : Nat)), some x0, some (.lst (nL ws)), none] ++ [some (.int (k : Int))]) st = some (.tup ((R.getD h []).map rowD)) := by
      show atI (R.map rowsD) (h : Int) = _
      exact S.r_at hn
    have e2 : pIx (pIx (pVar 1) (pVar 3)) (pVar 7) ([some (.tup (P.map rowD)), some (.tup (R.map rowsD)), some d, some (.int (h : Nat)), some x0, some (.lst (nL ws)), none] ++ [some (.int (k : Int))]) st = some (.tup (((R.getD h []).getD k []).map D.int)) := by
      unfold pIx at e0 ⊢
      rw [e0]
      show atI ((R.getD h []).map rowD) (k : Int) = _
      exact S.t_at hn km
    unfold pLen
    rw [e2]
    show some (D.int (((((R.getD h []).getD k []).map D.int).length : Nat) : Int)) = _
    rw [List.length_map]
  · have nw : ∀ k s, ¬ WantsK P ks sl h k s := fun k s w => by
      have := (fm k).mpr ⟨s, w⟩
      unfold hI at e
      rw [List.map_eq_nil_iff.mp e] at this
      cases this
    exact .inl (q0 nw)
  · have hx' : ws[i]? = some (ws.getD i 0) ∧ x = ((ws.getD i 0 : Nat) : Int) := by
      unfold hI at hx
      rw [List.getElem?_map] at hx
      cases e : ws[i]? with
      | none => rw [e] at hx; cases hx
      | some y =>
        rw [e] at hx
        cases hx
        rw [List.getD_eq_getElem?_getD, e]
        exact ⟨rfl, rfl⟩
    obtain ⟨e1, rfl⟩ := hx'
    obtain ⟨s, w⟩ := (fm _).mp (List.mem_of_getElem? e1)
    refine .inl (q1 _ s ⟨w, fun k t w2 => ?_⟩)
    obtain ⟨j, hj⟩ := List.mem_iff_getElem?.mp ((fm k).mpr ⟨t, w2⟩)
    have lj := (List.getElem?_eq_some_iff.mp hj).1
    have bj : (((R.getD h []).getD (ws.getD j 0) []).length : Int) ≤ (((R.getD h []).getD (ws.getD i 0) []).length : Int) := best j (by unfold hI; rw [List.length_map]; exact lj)
    have ej : ws.getD j 0 = k := by rw [List.getD_eq_getElem?_getD, hj]; rfl
    rw [ej] at bj
    have vm := (L.key w.2.1).1
    have km := (L.key w2.2.1).1
    generalize ws.getD i 0 = v at bj vm
    by_cases e : k = v
    · exact .inl e
    · right
      cases b : bt R h v k with
      | true => rfl
      | false =>
        have b2 := S.bt_not hn km vm e
        rw [b] at b2
        have bb : Beats (R.getD h []) k v := by
          unfold bt at b2
          show (v : Int) ∈ (R.getD h []).getD k []
          exact of_decide_eq_true b2
        have mo := tb.more no km vm bb
        omega

def g_behind : DRs := fun ds st Q => ∃ (m n : Nat) (P : List (List Int)) (R : List (List (List Int))) (sl : List Int) (s c : Nat), ds = [rowsD P, tabsD R, rowD sl, .int (s : Nat)] ∧ Setg m n P R ∧ (∀ t ∈ R, noRing t = true) ∧ m ≤ 60 ∧ n ≤ 60 ∧ Lay m n sl ∧ At sl s c ∧ ∀ ks : List Nat, (∀ k, k ∈ ks ↔ bt R s c k = true ∧ ∃ u, At sl u k) → ((∀ k t, ¬ WantsK P ks sl s k t) → Q (.int (-1)) st) ∧ ∀ v t, BestK P R ks sl s v t → Q (.int (v : Nat)) st
theorem ar_behind (ds : List D) (st : DSt) (Q : DK) (h : g_behind ds st Q) : ds.length = 4 := by
  obtain ⟨_, _, _, _, _, _, _, rfl, _⟩ := h
  rfl
set_option maxHeartbeats 2000000 in
theorem sem_behind (ds : List D) (st : DSt) (Q : DK) (h : g_behind ds st Q) : F_key_behind g_strongK { nx := fun _ st' => Rt st Q .non st', rt := Rt st Q } (startD 6 ds) st := by
  obtain ⟨m, n, P, R, sl, s, c, rfl, S, all, m60, n60, L, hc, q⟩ := h
  have st6 : startD 6 [rowsD P, tabsD R, rowD sl, D.int (s : Nat)] = [some (rowsD P), some (.tup (R.map rowsD)), some (.tup (sl.map D.int)), some (.int (s : Nat)), none, none] := rfl
  have big : (1000 : Nat) ≤ sizeLine := by decide
  obtain ⟨cm, sn⟩ := L.key hc
  have tb := S.tb sn
  have ln := sub_len (ys := DL.R m) (asc_nodup (tb.asc c cm)) (fun x hx => by
    have := tb.inr c cm x hx
    rw [R_mem]
    exact ⟨this.1, this.2⟩)
  have lr : (DL.R m).length = m := by unfold DL.R; simp
  simp only [F_key_behind, st6]
  try dsimp only
  rw [e_seq]
  try simp only [e_var, e_C, e_op, e_neg, e_isN, e_notN, e_and, e_or, e_not, e_test, e_tAnd, e_tOr, e_tNot, e_tYes, e_if, e_aNil, e_aCons, e_tup, e_lst, e_lstN, e_len0, e_len1, e_len2, e_len3, e_len4, e_len5, e_cb, e_on1, e_on2, e_onI, e_onB, e_onO, e_onO0, e_onOO, e_I0, e_I, e_add, e_addT, e_addS, e_addL, e_addLR, e_addRL, e_addRR, e_mul, e_mulL, e_mulT, e_rev, e_revT, e_ix, e_eqI, e_eqS, e_eqB, e_neI, e_neS, e_neB, e_ltI, e_chain, e_len, e_abs, e_2I, e_tuple1, e_tuple2, e_tuple3, e_listT, e_listN, e_allR, e_seqT, e_seqK, e_seqL, e_isi, e_isB, e_notB, e_truth, e_next, e_drop, e_ret, e_retN, e_ifS, e_set, e_asg, e_par, e_nm, e_gsN, e_gsC, e_gTpK, e_gTpL, e_sum, e_maxL, e_minL, e_maxDef, e_int, e_intB, e_aug, e_on3, e_par3, e_newK, e_getK, e_keyI, e_keyS, e_inK, e_ninK, e_putK, e_lenK, e_lstS, e_seqX, e_gTpT, e_oN, e_oS, e_sl, e_slT, e_slL, e_finT, e_finN, e_index, e_idxT, e_idxL, e_mIx, e_ixST, e_ixSL, e_mtL, e_w, e_w1, e_w2, e_wE, e_wZ, e_itK, e_itT, e_itL, e_itT2, e_itL2, e_lc, e_for, e_wipe0, e_wipe, e_okI, e_okR, e_gSb, List.getElem?_cons_zero, List.getElem?_cons_succ, List.set_cons_zero, List.set_cons_succ, S.r_at sn, hc.d, S.t_at sn cm]
  refine ⟨by rw [List.length_map]; omega, ?_⟩
  refine lc_if (fun d => match d with | .int i => decide (i ∈ sl) | _ => false) id (fun d hd Q' q' => ?_) (fun d hd _ Q' q' => ?_) ?_
  · obtain ⟨x, hx, rfl⟩ := List.mem_map.mp hd
    try simp only [e_var, e_C, e_op, e_neg, e_isN, e_notN, e_and, e_or, e_not, e_test, e_tAnd, e_tOr, e_tNot, e_tYes, e_if, e_aNil, e_aCons, e_tup, e_lst, e_lstN, e_len0, e_len1, e_len2, e_len3, e_len4, e_len5, e_cb, e_on1, e_on2, e_onI, e_onB, e_onO, e_onO0, e_onOO, e_I0, e_I, e_add, e_addT, e_addS, e_addL, e_addLR, e_addRL, e_addRR, e_mul, e_mulL, e_mulT, e_rev, e_revT, e_ix, e_eqI, e_eqS, e_eqB, e_neI, e_neS, e_neB, e_ltI, e_chain, e_len, e_abs, e_2I, e_tuple1, e_tuple2, e_tuple3, e_listT, e_listN, e_allR, e_seqT, e_seqK, e_seqL, e_isi, e_isB, e_notB, e_truth, e_next, e_drop, e_ret, e_retN, e_ifS, e_set, e_asg, e_par, e_nm, e_gsN, e_gsC, e_gTpK, e_gTpL, e_sum, e_maxL, e_minL, e_maxDef, e_int, e_intB, e_aug, e_on3, e_par3, e_newK, e_getK, e_keyI, e_keyS, e_inK, e_ninK, e_putK, e_lenK, e_lstS, e_seqX, e_gTpT, e_oN, e_oS, e_sl, e_slT, e_slL, e_finT, e_finN, e_index, e_idxT, e_idxL, e_mIx, e_ixST, e_ixSL, e_mtL, e_w, e_w1, e_w2, e_wE, e_wZ, e_itK, e_itT, e_itL, e_itT2, e_itL2, e_lc, e_for, e_wipe0, e_wipe, e_okI, e_okR, e_gSb, List.getElem?_cons_zero, List.getElem?_cons_succ, List.set_cons_zero, List.set_cons_succ]
    refine row_in ?_
    exact q'
  · obtain ⟨x, hx, rfl⟩ := List.mem_map.mp hd
    try simp only [e_var, e_C, e_op, e_neg, e_isN, e_notN, e_and, e_or, e_not, e_test, e_tAnd, e_tOr, e_tNot, e_tYes, e_if, e_aNil, e_aCons, e_tup, e_lst, e_lstN, e_len0, e_len1, e_len2, e_len3, e_len4, e_len5, e_cb, e_on1, e_on2, e_onI, e_onB, e_onO, e_onO0, e_onOO, e_I0, e_I, e_add, e_addT, e_addS, e_addL, e_addLR, e_addRL, e_addRR, e_mul, e_mulL, e_mulT, e_rev, e_revT, e_ix, e_eqI, e_eqS, e_eqB, e_neI, e_neS, e_neB, e_ltI, e_chain, e_len, e_abs, e_2I, e_tuple1, e_tuple2, e_tuple3, e_listT, e_listN, e_allR, e_seqT, e_seqK, e_seqL, e_isi, e_isB, e_notB, e_truth, e_next, e_drop, e_ret, e_retN, e_ifS, e_set, e_asg, e_par, e_nm, e_gsN, e_gsC, e_gTpK, e_gTpL, e_sum, e_maxL, e_minL, e_maxDef, e_int, e_intB, e_aug, e_on3, e_par3, e_newK, e_getK, e_keyI, e_keyS, e_inK, e_ninK, e_putK, e_lenK, e_lstS, e_seqX, e_gTpT, e_oN, e_oS, e_sl, e_slT, e_slL, e_finT, e_finN, e_index, e_idxT, e_idxL, e_mIx, e_ixST, e_ixSL, e_mtL, e_w, e_w1, e_w2, e_wE, e_wZ, e_itK, e_itT, e_itL, e_itT2, e_itL2, e_lc, e_for, e_wipe0, e_wipe, e_okI, e_okR, e_gSb, List.getElem?_cons_zero, List.getElem?_cons_succ, List.set_cons_zero, List.set_cons_succ]
    exact q'
  refine fin_lst ?_
  rw [List.map_id]
  have ef : (((R.getD s []).getD c []).map D.int).filter (fun d => match d with | .int i => decide (i ∈ sl) | _ => false) = nL ((((R.getD s []).getD c []).filter fun i => decide (i ∈ sl)).map Int.toNat) := by
    unfold nL
    rw [List.filter_map, List.map_map]
    refine List.map_congr_left fun x hx => ?_
    have hx' := (List.mem_filter.mp hx).1
    have := tb.inr c cm x hx'
    show D.int x = D.int ((x.toNat : Nat) : Int)
    rw [Int.toNat_of_nonneg this.1]
  have mem : ∀ k, k ∈ (((R.getD s []).getD c []).filter fun i => decide (i ∈ sl)).map Int.toNat ↔ bt R s c k = true ∧ ∃ u, At sl u k := fun k => by
    rw [List.mem_map]
    constructor
    · rintro ⟨x, hx, rfl⟩
      obtain ⟨h1, h2⟩ := List.mem_filter.mp hx
      have h2 := of_decide_eq_true h2
      have := tb.inr c cm x h1
      have ex : ((x.toNat : Nat) : Int) = x := Int.toNat_of_nonneg this.1
      refine ⟨by unfold bt; rw [ex]; exact decide_eq_true h1, mem_lay.mp (by rw [ex]; exact h2)⟩
    · rintro ⟨b, u⟩
      unfold bt at b
      exact ⟨(k : Int), List.mem_filter.mpr ⟨of_decide_eq_true b, decide_eq_true (mem_lay.mpr u)⟩, by omega⟩
  have lk : ((((R.getD s []).getD c []).filter fun i => decide (i ∈ sl)).map Int.toNat).length ≤ 60 := by
    rw [List.length_map]
    have := List.length_filter_le (fun i => decide (i ∈ sl)) ((R.getD s []).getD c [])
    omega
  rw [ef]
  generalize (((R.getD s []).getD c []).filter fun i => decide (i ∈ sl)).map Int.toNat = ks at mem lk
  obtain ⟨q0, q1⟩ := q ks mem
  try simp only [e_var, e_C, e_op, e_neg, e_isN, e_notN, e_and, e_or, e_not, e_test, e_tAnd, e_tOr, e_tNot, e_tYes, e_if, e_aNil, e_aCons, e_tup, e_lst, e_lstN, e_len0, e_len1, e_len2, e_len3, e_len4, e_len5, e_cb, e_on1, e_on2, e_onI, e_onB, e_onO, e_onO0, e_onOO, e_I0, e_I, e_add, e_addT, e_addS, e_addL, e_addLR, e_addRL, e_addRR, e_mul, e_mulL, e_mulT, e_rev, e_revT, e_ix, e_eqI, e_eqS, e_eqB, e_neI, e_neS, e_neB, e_ltI, e_chain, e_len, e_abs, e_2I, e_tuple1, e_tuple2, e_tuple3, e_listT, e_listN, e_allR, e_seqT, e_seqK, e_seqL, e_isi, e_isB, e_notB, e_truth, e_next, e_drop, e_ret, e_retN, e_ifS, e_set, e_asg, e_par, e_nm, e_gsN, e_gsC, e_gTpK, e_gTpL, e_sum, e_maxL, e_minL, e_maxDef, e_int, e_intB, e_aug, e_on3, e_par3, e_newK, e_getK, e_keyI, e_keyS, e_inK, e_ninK, e_putK, e_lenK, e_lstS, e_seqX, e_gTpT, e_oN, e_oS, e_sl, e_slT, e_slL, e_finT, e_finN, e_index, e_idxT, e_idxL, e_mIx, e_ixST, e_ixSL, e_mtL, e_w, e_w1, e_w2, e_wE, e_wZ, e_itK, e_itT, e_itL, e_itT2, e_itL2, e_lc, e_for, e_wipe0, e_wipe, e_okI, e_okR, e_gSb, List.getElem?_cons_zero, List.getElem?_cons_succ, List.set_cons_zero, List.set_cons_succ]
  refine ⟨m, n, P, R, sl, _, s, ks, _, rfl, .inr rfl, S, all, L, .inl rfl, sn, by omega, fun k hk => ((mem k).mp hk).2, fun z => .inl (q0 z), fun v t b => .inl (q1 v t b)⟩
def g_next : DRs := fun ds st Q => g_behind ds st Q
theorem ar_next (ds : List D) (st : DSt) (Q : DK) (h : g_next ds st Q) : ds.length = 4 := ar_behind _ _ _ h
theorem sem_next (ds : List D) (st : DSt) (Q : DK) (h : g_next ds st Q) : F_next_key g_reqO g_behind { nx := fun _ st' => Rt st Q .non st', rt := Rt st Q } (startD 4 ds) st := by
  obtain ⟨m, n, P, R, sl, s, c, rfl, S, all, m60, n60, L, hc, q⟩ := h
  have st4 : startD 4 [rowsD P, tabsD R, rowD sl, D.int (s : Nat)] = [some (rowsD P), some (tabsD R), some (rowD sl), some (.int (s : Nat))] := rfl
  simp only [F_next_key, st4]
  try dsimp only
  rw [e_seq]
  try simp only [e_var, e_C, e_op, e_neg, e_isN, e_notN, e_and, e_or, e_not, e_test, e_tAnd, e_tOr, e_tNot, e_tYes, e_if, e_aNil, e_aCons, e_tup, e_lst, e_lstN, e_len0, e_len1, e_len2, e_len3, e_len4, e_len5, e_cb, e_on1, e_on2, e_onI, e_onB, e_onO, e_onO0, e_onOO, e_I0, e_I, e_add, e_addT, e_addS, e_addL, e_addLR, e_addRL, e_addRR, e_mul, e_mulL, e_mulT, e_rev, e_revT, e_ix, e_eqI, e_eqS, e_eqB, e_neI, e_neS, e_neB, e_ltI, e_chain, e_len, e_abs, e_2I, e_tuple1, e_tuple2, e_tuple3, e_listT, e_listN, e_allR, e_seqT, e_seqK, e_seqL, e_isi, e_isB, e_notB, e_truth, e_next, e_drop, e_ret, e_retN, e_ifS, e_set, e_asg, e_par, e_nm, e_gsN, e_gsC, e_gTpK, e_gTpL, e_sum, e_maxL, e_minL, e_maxDef, e_int, e_intB, e_aug, e_on3, e_par3, e_newK, e_getK, e_keyI, e_keyS, e_inK, e_ninK, e_putK, e_lenK, e_lstS, e_seqX, e_gTpT, e_oN, e_oS, e_sl, e_slT, e_slL, e_finT, e_finN, e_index, e_idxT, e_idxL, e_mIx, e_ixST, e_ixSL, e_mtL, e_w, e_w1, e_w2, e_wE, e_wZ, e_itK, e_itT, e_itL, e_itT2, e_itL2, e_lc, e_for, e_wipe0, e_wipe, e_okI, e_okR, e_gSb, List.getElem?_cons_zero, List.getElem?_cons_succ, List.set_cons_zero, List.set_cons_succ]
  refine ⟨m, R, rfl, by rw [S.rl]; omega, m60, fun t ht => ⟨S.rt t ht, all t ht⟩, ?_⟩
  try simp only [e_var, e_C, e_op, e_neg, e_isN, e_notN, e_and, e_or, e_not, e_test, e_tAnd, e_tOr, e_tNot, e_tYes, e_if, e_aNil, e_aCons, e_tup, e_lst, e_lstN, e_len0, e_len1, e_len2, e_len3, e_len4, e_len5, e_cb, e_on1, e_on2, e_onI, e_onB, e_onO, e_onO0, e_onOO, e_I0, e_I, e_add, e_addT, e_addS, e_addL, e_addLR, e_addRL, e_addRR, e_mul, e_mulL, e_mulT, e_rev, e_revT, e_ix, e_eqI, e_eqS, e_eqB, e_neI, e_neS, e_neB, e_ltI, e_chain, e_len, e_abs, e_2I, e_tuple1, e_tuple2, e_tuple3, e_listT, e_listN, e_allR, e_seqT, e_seqK, e_seqL, e_isi, e_isB, e_notB, e_truth, e_next, e_drop, e_ret, e_retN, e_ifS, e_set, e_asg, e_par, e_nm, e_gsN, e_gsC, e_gTpK, e_gTpL, e_sum, e_maxL, e_minL, e_maxDef, e_int, e_intB, e_aug, e_on3, e_par3, e_newK, e_getK, e_keyI, e_keyS, e_inK, e_ninK, e_putK, e_lenK, e_lstS, e_seqX, e_gTpT, e_oN, e_oS, e_sl, e_slT, e_slL, e_finT, e_finN, e_index, e_idxT, e_idxL, e_mIx, e_ixST, e_ixSL, e_mtL, e_w, e_w1, e_w2, e_wE, e_wZ, e_itK, e_itT, e_itL, e_itT2, e_itL2, e_lc, e_for, e_wipe0, e_wipe, e_okI, e_okR, e_gSb, List.getElem?_cons_zero, List.getElem?_cons_succ, List.set_cons_zero, List.set_cons_succ]
  exact ⟨m, n, P, R, sl, s, c, rfl, S, all, m60, n60, L, hc, fun ks mk => ⟨fun z => .inl ((q ks mk).1 z), fun v t b => .inl ((q ks mk).2 v t b)⟩⟩
end DL
namespace DL
open PySem PySem.Spec PyProof.Rows L2 LamX PySem.W SL
def AskedS (P : List (List Int)) (sl : List Int) (h k s : Nat) : Prop := At sl s k ∧ rk P k h ≤ rk P k s
def g_asked : DRs := fun ds st Q => ∃ (m n : Nat) (P : List (List Int)) (R : List (List (List Int))) (sl : List Int) (h : Nat), ds = [rowsD P, rowD sl, .int (h : Nat)] ∧ Setg m n P R ∧ Lay m n sl ∧ h < n ∧ n ≤ 900 ∧ ∀ ws : List Nat, (∀ k, k ∈ ws ↔ ∃ s, AskedS P sl h k s) → ws.length ≤ n → Q (.lst (nL ws)) st
theorem ar_asked (ds : List D) (st : DSt) (Q : DK) (h : g_asked ds st Q) : ds.length = 3 := by
  obtain ⟨_, _, _, _, _, _, rfl, _⟩ := h
  rfl
set_option maxHeartbeats 4000000 in
theorem sem_asked (ds : List D) (st : DSt) (Q : DK) (h : g_asked ds st Q) : F__law_asked { nx := fun _ st' => Rt st Q .non st', rt := Rt st Q } (startD 6 ds) st := by
  obtain ⟨m, n, P, R, sl, h, rfl, S, L, hn, n9, q⟩ := h
  have st6 : startD 6 [rowsD P, rowD sl, D.int (h : Nat)] = [some (.tup (P.map rowD)), some (.tup (sl.map D.int)), some (.int (h : Nat)), none, none, none] := rfl
  have big : (1000 : Nat) ≤ sizeLine := by decide
  simp only [F__law_asked, st6]
  try dsimp only
  rw [e_seq]
  try simp only [e_var, e_C, e_op, e_neg, e_isN, e_notN, e_and, e_or, e_not, e_test, e_tAnd, e_tOr, e_tNot, e_tYes, e_if, e_aNil, e_aCons, e_tup, e_lst, e_lstN, e_len0, e_len1, e_len2, e_len3, e_len4, e_len5, e_cb, e_on1, e_on2, e_onI, e_onB, e_onO, e_onO0, e_onOO, e_I0, e_I, e_add, e_addT, e_addS, e_addL, e_addLR, e_addRL, e_addRR, e_mul, e_mulL, e_mulT, e_rev, e_revT, e_ix, e_eqI, e_eqS, e_eqB, e_neI, e_neS, e_neB, e_ltI, e_chain, e_len, e_abs, e_2I, e_tuple1, e_tuple2, e_tuple3, e_listT, e_listN, e_allR, e_seqT, e_seqK, e_seqL, e_isi, e_isB, e_notB, e_truth, e_next, e_drop, e_ret, e_retN, e_ifS, e_set, e_asg, e_par, e_nm, e_gsN, e_gsC, e_gTpK, e_gTpL, e_sum, e_maxL, e_minL, e_maxDef, e_int, e_intB, e_aug, e_on3, e_par3, e_newK, e_getK, e_keyI, e_keyS, e_inK, e_ninK, e_putK, e_lenK, e_lstS, e_seqX, e_gTpT, e_oN, e_oS, e_sl, e_slT, e_slL, e_finT, e_finN, e_index, e_idxT, e_idxL, e_mIx, e_ixST, e_ixSL, e_mtL, e_w, e_w1, e_w2, e_wE, e_wZ, e_itK, e_itT, e_itL, e_itT2, e_itL2, e_lc, e_for, e_wipe0, e_wipe, e_okI, e_okR, e_gSb, List.getElem?_cons_zero, List.getElem?_cons_succ, List.set_cons_zero, List.set_cons_succ]
  try dsimp only
  rw [e_seq]
  try simp only [e_var, e_C, e_op, e_neg, e_isN, e_notN, e_and, e_or, e_not, e_test, e_tAnd, e_tOr, e_tNot, e_tYes, e_if, e_aNil, e_aCons, e_tup, e_lst, e_lstN, e_len0, e_len1, e_len2, e_len3, e_len4, e_len5, e_cb, e_on1, e_on2, e_onI, e_onB, e_onO, e_onO0, e_onOO, e_I0, e_I, e_add, e_addT, e_addS, e_addL, e_addLR, e_addRL, e_addRR, e_mul, e_mulL, e_mulT, e_rev, e_revT, e_ix, e_eqI, e_eqS, e_eqB, e_neI, e_neS, e_neB, e_ltI, e_chain, e_len, e_abs, e_2I, e_tuple1, e_tuple2, e_tuple3, e_listT, e_listN, e_allR, e_seqT, e_seqK, e_seqL, e_isi, e_isB, e_notB, e_truth, e_next, e_drop, e_ret, e_retN, e_ifS, e_set, e_asg, e_par, e_nm, e_gsN, e_gsC, e_gTpK, e_gTpL, e_sum, e_maxL, e_minL, e_maxDef, e_int, e_intB, e_aug, e_on3, e_par3, e_newK, e_getK, e_keyI, e_keyS, e_inK, e_ninK, e_putK, e_lenK, e_lstS, e_seqX, e_gTpT, e_oN, e_oS, e_sl, e_slT, e_slL, e_finT, e_finN, e_index, e_idxT, e_idxL, e_mIx, e_ixST, e_ixSL, e_mtL, e_w, e_w1, e_w2, e_wE, e_wZ, e_itK, e_itT, e_itL, e_itT2, e_itL2, e_lc, e_for, e_wipe0, e_wipe, e_okI, e_okR, e_gSb, List.getElem?_cons_zero, List.getElem?_cons_succ, List.set_cons_zero, List.set_cons_succ]
  refine for_inv (fun left r st' => ∃ (i : Nat) (ws : List Nat) (x4 x5 : Option D), left = (enumD (sl.map D.int)).drop i ∧ (∀ k, k ∈ ws ↔ ∃ s, s < i ∧ AskedS P sl h k s) ∧ ws.length ≤ i ∧ i ≤ n ∧ r = [some (.tup (P.map rowD)), some (.tup (sl.map D.int)), some (.int (h : Nat)), some (.ref st.length), x4, x5] ∧ st' = st ++ [.lst (nL ws)]) ?_ ?_ _ _ _ ⟨0, [], _, _, rfl, fun k => ⟨fun z => (by cases z), fun ⟨s, z, _⟩ => absurd z (Nat.not_lt_zero _)⟩, Nat.le_refl _, Nat.zero_le _, rfl, rfl⟩
  · rintro d left r st' N hN ⟨i, ws, x4, x5, e, mw, lw, le, rfl, rfl⟩
    obtain ⟨li, rfl, rfl⟩ := enum_drop e
    have hi : i < n := by rw [← L.len]; exact li
    try simp only [e_var, e_C, e_op, e_neg, e_isN, e_notN, e_and, e_or, e_not, e_test, e_tAnd, e_tOr, e_tNot, e_tYes, e_if, e_aNil, e_aCons, e_tup, e_lst, e_lstN, e_len0, e_len1, e_len2, e_len3, e_len4, e_len5, e_cb, e_on1, e_on2, e_onI, e_onB, e_onO, e_onO0, e_onOO, e_I0, e_I, e_add, e_addT, e_addS, e_addL, e_addLR, e_addRL, e_addRR, e_mul, e_mulL, e_mulT, e_rev, e_revT, e_ix, e_eqI, e_eqS, e_eqB, e_neI, e_neS, e_neB, e_ltI, e_chain, e_len, e_abs, e_2I, e_tuple1, e_tuple2, e_tuple3, e_listT, e_listN, e_allR, e_seqT, e_seqK, e_seqL, e_isi, e_isB, e_notB, e_truth, e_next, e_drop, e_ret, e_retN, e_ifS, e_set, e_asg, e_par, e_nm, e_gsN, e_gsC, e_gTpK, e_gTpL, e_sum, e_maxL, e_minL, e_maxDef, e_int, e_intB, e_aug, e_on3, e_par3, e_newK, e_getK, e_keyI, e_keyS, e_inK, e_ninK, e_putK, e_lenK, e_lstS, e_seqX, e_gTpT, e_oN, e_oS, e_sl, e_slT, e_slL, e_finT, e_finN, e_index, e_idxT, e_idxL, e_mIx, e_ixST, e_ixSL, e_mtL, e_w, e_w1, e_w2, e_wE, e_wZ, e_itK, e_itT, e_itL, e_itT2, e_itL2, e_lc, e_for, e_wipe0, e_wipe, e_okI, e_okR, e_gSb, List.getElem?_cons_zero, List.getElem?_cons_succ, List.set_cons_zero, List.set_cons_succ]
    refine ⟨rfl, ?_⟩
    try simp only [e_var, e_C, e_op, e_neg, e_isN, e_notN, e_and, e_or, e_not, e_test, e_tAnd, e_tOr, e_tNot, e_tYes, e_if, e_aNil, e_aCons, e_tup, e_lst, e_lstN, e_len0, e_len1, e_len2, e_len3, e_len4, e_len5, e_cb, e_on1, e_on2, e_onI, e_onB, e_onO, e_onO0, e_onOO, e_I0, e_I, e_add, e_addT, e_addS, e_addL, e_addLR, e_addRL, e_addRR, e_mul, e_mulL, e_mulT, e_rev, e_revT, e_ix, e_eqI, e_eqS, e_eqB, e_neI, e_neS, e_neB, e_ltI, e_chain, e_len, e_abs, e_2I, e_tuple1, e_tuple2, e_tuple3, e_listT, e_listN, e_allR, e_seqT, e_seqK, e_seqL, e_isi, e_isB, e_notB, e_truth, e_next, e_drop, e_ret, e_retN, e_ifS, e_set, e_asg, e_par, e_nm, e_gsN, e_gsC, e_gTpK, e_gTpL, e_sum, e_maxL, e_minL, e_maxDef, e_int, e_intB, e_aug, e_on3, e_par3, e_newK, e_getK, e_keyI, e_keyS, e_inK, e_ninK, e_putK, e_lenK, e_lstS, e_seqX, e_gTpT, e_oN, e_oS, e_sl, e_slT, e_slL, e_finT, e_finN, e_index, e_idxT, e_idxL, e_mIx, e_ixST, e_ixSL, e_mtL, e_w, e_w1, e_w2, e_wE, e_wZ, e_itK, e_itT, e_itL, e_itT2, e_itL2, e_lc, e_for, e_wipe0, e_wipe, e_okI, e_okR, e_gSb, List.getElem?_cons_zero, List.getElem?_cons_succ, List.set_cons_zero, List.set_cons_succ]
    rcases L.either hi with em | ⟨k, a⟩
    · have ex : sl.getD i 0 = -1 := by rw [List.getD_eq_getElem?_getD, em]; rfl
      rw [ex]
      refine iteF' (by decide) ?_
      try simp only [e_var, e_C, e_op, e_neg, e_isN, e_notN, e_and, e_or, e_not, e_test, e_tAnd, e_tOr, e_tNot, e_tYes, e_if, e_aNil, e_aCons, e_tup, e_lst, e_lstN, e_len0, e_len1, e_len2, e_len3, e_len4, e_len5, e_cb, e_on1, e_on2, e_onI, e_onB, e_onO, e_onO0, e_onOO, e_I0, e_I, e_add, e_addT, e_addS, e_addL, e_addLR, e_addRL, e_addRR, e_mul, e_mulL, e_mulT, e_rev, e_revT, e_ix, e_eqI, e_eqS, e_eqB, e_neI, e_neS, e_neB, e_ltI, e_chain, e_len, e_abs, e_2I, e_tuple1, e_tuple2, e_tuple3, e_listT, e_listN, e_allR, e_seqT, e_seqK, e_seqL, e_isi, e_isB, e_notB, e_truth, e_next, e_drop, e_ret, e_retN, e_ifS, e_set, e_asg, e_par, e_nm, e_gsN, e_gsC, e_gTpK, e_gTpL, e_sum, e_maxL, e_minL, e_maxDef, e_int, e_intB, e_aug, e_on3, e_par3, e_newK, e_getK, e_keyI, e_keyS, e_inK, e_ninK, e_putK, e_lenK, e_lstS, e_seqX, e_gTpT, e_oN, e_oS, e_sl, e_slT, e_slL, e_finT, e_finN, e_index, e_idxT, e_idxL, e_mIx, e_ixST, e_ixSL, e_mtL, e_w, e_w1, e_w2, e_wE, e_wZ, e_itK, e_itT, e_itL, e_itT2, e_itL2, e_lc, e_for, e_wipe0, e_wipe, e_okI, e_okR, e_gSb, List.getElem?_cons_zero, List.getElem?_cons_succ, List.set_cons_zero, List.set_cons_succ]
      refine hN _ _ (.inl ⟨i + 1, ws, _, _, rfl, fun k => ?_, by omega, by omega, rfl, rfl⟩)
      rw [mw]
      constructor
      · rintro ⟨s, ls, z⟩
        exact ⟨s, by omega, z⟩
      · rintro ⟨s, ls, z⟩
        refine ⟨s, ?_, z⟩
        rcases Nat.lt_or_ge s i with l | l
        · exact l
        · have : s = i := by omega
          subst this
          exact absurd em z.1.ne
    · have ex : sl.getD i 0 = (k : Int) := by unfold At at a; rw [List.getD_eq_getElem?_getD, a]; rfl
      have km := (L.key a).1
      rw [ex]
      refine iteT' (decide_eq_true (by omega)) ?_
      try simp only [e_var, e_C, e_op, e_neg, e_isN, e_notN, e_and, e_or, e_not, e_test, e_tAnd, e_tOr, e_tNot, e_tYes, e_if, e_aNil, e_aCons, e_tup, e_lst, e_lstN, e_len0, e_len1, e_len2, e_len3, e_len4, e_len5, e_cb, e_on1, e_on2, e_onI, e_onB, e_onO, e_onO0, e_onOO, e_I0, e_I, e_add, e_addT, e_addS, e_addL, e_addLR, e_addRL, e_addRR, e_mul, e_mulL, e_mulT, e_rev, e_revT, e_ix, e_eqI, e_eqS, e_eqB, e_neI, e_neS, e_neB, e_ltI, e_chain, e_len, e_abs, e_2I, e_tuple1, e_tuple2, e_tuple3, e_listT, e_listN, e_allR, e_seqT, e_seqK, e_seqL, e_isi, e_isB, e_notB, e_truth, e_next, e_drop, e_ret, e_retN, e_ifS, e_set, e_asg, e_par, e_nm, e_gsN, e_gsC, e_gTpK, e_gTpL, e_sum, e_maxL, e_minL, e_maxDef, e_int, e_intB, e_aug, e_on3, e_par3, e_newK, e_getK, e_keyI, e_keyS, e_inK, e_ninK, e_putK, e_lenK, e_lstS, e_seqX, e_gTpT, e_oN, e_oS, e_sl, e_slT, e_slL, e_finT, e_finN, e_index, e_idxT, e_idxL, e_mIx, e_ixST, e_ixSL, e_mtL, e_w, e_w1, e_w2, e_wE, e_wZ, e_itK, e_itT, e_itL, e_itT2, e_itL2, e_lc, e_for, e_wipe0, e_wipe, e_okI, e_okR, e_gSb, List.getElem?_cons_zero, List.getElem?_cons_succ, List.set_cons_zero, List.set_cons_succ, S.p_at km, intsD_ints, (S.rk_at km hn).2.2, (S.rk_at km hi).2.2]
      refine ⟨trivial, trivial, ?_⟩
      by_cases c : rk P k h ≤ rk P k i
      · refine iteT' (decide_eq_true (by omega)) ?_
        refine ⟨by unfold LstD; simp only [ownA], append_ref ownA (by unfold nL; rw [List.length_map]; omega) ?_⟩
        rw [putA]
        have en : nL ws ++ [D.int (k : Nat)] = nL (ws ++ [k]) := by unfold nL; rw [List.map_append]; rfl
        rw [en]
        refine hN _ _ (.inl ⟨i + 1, ws ++ [k], _, _, rfl, fun c' => ?_, by rw [List.length_append]; simp; omega, by omega, rfl, rfl⟩)
        rw [List.mem_append, List.mem_singleton, mw]
        constructor
        · rintro (⟨s, ls, z⟩ | rfl)
          · exact ⟨s, by omega, z⟩
          · exact ⟨i, Nat.lt_succ_self _, a, c⟩
        · rintro ⟨s, ls, z⟩
          rcases Nat.lt_or_ge s i with l | l
          · exact .inl ⟨s, l, z⟩
          · have : s = i := by omega
            subst this
            exact .inr (z.1.one a)
      · refine iteF' (decide_eq_false (by omega)) ?_
        refine hN _ _ (.inl ⟨i + 1, ws, _, _, rfl, fun c' => ?_, by omega, by omega, rfl, rfl⟩)
        rw [mw]
        constructor
        · rintro ⟨s, ls, z⟩
          exact ⟨s, by omega, z⟩
        · rintro ⟨s, ls, z⟩
          refine ⟨s, ?_, z⟩
          rcases Nat.lt_or_ge s i with l | l
          · exact l
          · have : s = i := by omega
            subst this
            have := z.1.one a
            subst this
            exact absurd z.2 c
  · rintro r st' ⟨i, ws, x4, x5, e, mw, lw, le, rfl, rfl⟩
    have hl := enum_end e
    have ei : i = n := by have := L.len; omega
    subst ei
    try simp only [e_var, e_C, e_op, e_neg, e_isN, e_notN, e_and, e_or, e_not, e_test, e_tAnd, e_tOr, e_tNot, e_tYes, e_if, e_aNil, e_aCons, e_tup, e_lst, e_lstN, e_len0, e_len1, e_len2, e_len3, e_len4, e_len5, e_cb, e_on1, e_on2, e_onI, e_onB, e_onO, e_onO0, e_onOO, e_I0, e_I, e_add, e_addT, e_addS, e_addL, e_addLR, e_addRL, e_addRR, e_mul, e_mulL, e_mulT, e_rev, e_revT, e_ix, e_eqI, e_eqS, e_eqB, e_neI, e_neS, e_neB, e_ltI, e_chain, e_len, e_abs, e_2I, e_tuple1, e_tuple2, e_tuple3, e_listT, e_listN, e_allR, e_seqT, e_seqK, e_seqL, e_isi, e_isB, e_notB, e_truth, e_next, e_drop, e_ret, e_retN, e_ifS, e_set, e_asg, e_par, e_nm, e_gsN, e_gsC, e_gTpK, e_gTpL, e_sum, e_maxL, e_minL, e_maxDef, e_int, e_intB, e_aug, e_on3, e_par3, e_newK, e_getK, e_keyI, e_keyS, e_inK, e_ninK, e_putK, e_lenK, e_lstS, e_seqX, e_gTpT, e_oN, e_oS, e_sl, e_slT, e_slL, e_finT, e_finN, e_index, e_idxT, e_idxL, e_mIx, e_ixST, e_ixSL, e_mtL, e_w, e_w1, e_w2, e_wE, e_wZ, e_itK, e_itT, e_itL, e_itT2, e_itL2, e_lc, e_for, e_wipe0, e_wipe, e_okI, e_okR, e_gSb, List.getElem?_cons_zero, List.getElem?_cons_succ, List.set_cons_zero, List.set_cons_succ]
    refine rt_list rfl (Nat.le_refl _) ownA (clos_nL _ ws) (fun i o h => .inl h) (q ws (fun k => ?_) lw)
    rw [mw]
    exact ⟨fun ⟨s, _, z⟩ => ⟨s, z⟩, fun ⟨s, z⟩ => ⟨s, (L.key z.1).2, z⟩⟩
end DL
namespace DL
open PySem PySem.Spec PyProof.Rows L2 LamX PySem.W SL
theorem nin_seqI {st : DSt} {y : D} {ns : List Int} {x : Int} {Q : DK} (e : seqS st y = some (ns.map D.int)) (q : Q (.bl (decide (x ∈ ns))) st) : dInG false (.int x) y st Q := by
  simp only [e_in, e, e_onO]
  refine ⟨⟨rfl, flat_row ns⟩, ?_⟩
  rw [any_row]
  exact q
theorem ints_perm {ys : List D} {h : List Int} (pm : ys.Perm (h.map D.int)) : ∃ h2 : List Int, ys = h2.map D.int ∧ h2.Perm h := by
  have z : ∀ y ∈ ys, ∃ i : Int, y = .int i := fun y hy => by
    obtain ⟨i, _, rfl⟩ := List.mem_map.mp (pm.mem_iff.mp hy)
    exact ⟨i, rfl⟩
  refine ⟨ys.map fun d => match d with | .int i => i | _ => 0, ?_, ?_⟩
  · rw [List.map_map]
    refine (List.map_id ys).symm.trans (List.map_congr_left fun y hy => ?_)
    obtain ⟨i, rfl⟩ := z y hy
    rfl
  · have w := pm.map (fun d : D => match d with | .int i => i | _ => 0)
    rw [List.map_map] at w
    have e : ((fun d : D => match d with | .int i => i | _ => 0) ∘ D.int) = id := by funext i; rfl
    rw [e, List.map_id] at w
    exact w
def stay (P : List (List Int)) (sl : List Int) (k : Nat) : Nat := if (k : Int) ∈ sl then rk P k (pos sl (k : Int)) + 1 else 0
def g_otherP : DRs := fun ds st Q => ∃ (p k m n : Nat) (P : List (List Int)) (R : List (List (List Int))) (sl : List Int), ds = [.ref p, rowsD P, rowD sl] ∧ Pot (k + 400) p st ∧ Setg m n P R ∧ m ≤ 16 ∧ n ≤ 16 ∧ Lay m n sl ∧ ∀ (P2 : List (List Int)) (o : O), P2.length = m → (∀ x ∈ P2, Ord n x) → (∀ a, a < m → (P2.getD a []).take (stay P sl a) = (P.getD a []).take (stay P sl a)) → PotO k o → Q (rowsD P2) (st.set p o)
theorem ar_otherP (ds : List D) (st : DSt) (Q : DK) (h : g_otherP ds st Q) : ds.length = 3 := by
  obtain ⟨_, _, _, _, _, _, _, rfl, _⟩ := h
  rfl
set_option maxHeartbeats 4000000 in
theorem sem_otherP (ds : List D) (st : DSt) (Q : DK) (h : g_otherP ds st Q) : F__law_other_probes g_shuf { nx := fun _ st' => Rt st Q .non st', rt := Rt st Q } (startD 7 ds) st := by
  obtain ⟨p, k, m, n, P, R, sl, rfl, pot, S, m16, n16, L, q⟩ := h
  have lt := pot.lt
  have st7 : startD 7 [D.ref p, rowsD P, rowD sl] = [some (.ref p), some (.tup (P.map rowD)), some (.tup (sl.map D.int)), none, none, none, none] := rfl
  have big : (1000 : Nat) ≤ sizeLine := by decide
  obtain ⟨o0, eo, po0⟩ := pot
  have es : ∀ x : O, st ++ [x] = st.set p o0 ++ [x] := fun x => by rw [set_same eo]
  have lP := S.pl
  simp only [F__law_other_probes, st7]
  try dsimp only
  rw [e_seq]
  try simp only [e_var, e_C, e_op, e_neg, e_isN, e_notN, e_and, e_or, e_not, e_test, e_tAnd, e_tOr, e_tNot, e_tYes, e_if, e_aNil, e_aCons, e_tup, e_lst, e_lstN, e_len0, e_len1, e_len2, e_len3, e_len4, e_len5, e_cb, e_on1, e_on2, e_onI, e_onB, e_onO, e_onO0, e_onOO, e_I0, e_I, e_add, e_addT, e_addS, e_addL, e_addLR, e_addRL, e_addRR, e_mul, e_mulL, e_mulT, e_rev, e_revT, e_ix, e_eqI, e_eqS, e_eqB, e_neI, e_neS, e_neB, e_ltI, e_chain, e_len, e_abs, e_2I, e_tuple1, e_tuple2, e_tuple3, e_listT, e_listN, e_allR, e_seqT, e_seqK, e_seqL, e_isi, e_isB, e_notB, e_truth, e_next, e_drop, e_ret, e_retN, e_ifS, e_set, e_asg, e_par, e_nm, e_gsN, e_gsC, e_gTpK, e_gTpL, e_sum, e_maxL, e_minL, e_maxDef, e_int, e_intB, e_aug, e_on3, e_par3, e_newK, e_getK, e_keyI, e_keyS, e_inK, e_ninK, e_putK, e_lenK, e_lstS, e_seqX, e_gTpT, e_oN, e_oS, e_sl, e_slT, e_slL, e_finT, e_finN, e_index, e_idxT, e_idxL, e_mIx, e_ixST, e_ixSL, e_mtL, e_w, e_w1, e_w2, e_wE, e_wZ, e_itK, e_itT, e_itL, e_itT2, e_itL2, e_lc, e_for, e_wipe0, e_wipe, e_okI, e_okR, e_gSb, List.getElem?_cons_zero, List.getElem?_cons_succ, List.set_cons_zero, List.set_cons_succ]
  try dsimp only
  rw [e_seq]
  try simp only [e_var, e_C, e_op, e_neg, e_isN, e_notN, e_and, e_or, e_not, e_test, e_tAnd, e_tOr, e_tNot, e_tYes, e_if, e_aNil, e_aCons, e_tup, e_lst, e_lstN, e_len0, e_len1, e_len2, e_len3, e_len4, e_len5, e_cb, e_on1, e_on2, e_onI, e_onB, e_onO, e_onO0, e_onOO, e_I0, e_I, e_add, e_addT, e_addS, e_addL, e_addLR, e_addRL, e_addRR, e_mul, e_mulL, e_mulT, e_rev, e_revT, e_ix, e_eqI, e_eqS, e_eqB, e_neI, e_neS, e_neB, e_ltI, e_chain, e_len, e_abs, e_2I, e_tuple1, e_tuple2, e_tuple3, e_listT, e_listN, e_allR, e_seqT, e_seqK, e_seqL, e_isi, e_isB, e_notB, e_truth, e_next, e_drop, e_ret, e_retN, e_ifS, e_set, e_asg, e_par, e_nm, e_gsN, e_gsC, e_gTpK, e_gTpL, e_sum, e_maxL, e_minL, e_maxDef, e_int, e_intB, e_aug, e_on3, e_par3, e_newK, e_getK, e_keyI, e_keyS, e_inK, e_ninK, e_putK, e_lenK, e_lstS, e_seqX, e_gTpT, e_oN, e_oS, e_sl, e_slT, e_slL, e_finT, e_finN, e_index, e_idxT, e_idxL, e_mIx, e_ixST, e_ixSL, e_mtL, e_w, e_w1, e_w2, e_wE, e_wZ, e_itK, e_itT, e_itL, e_itT2, e_itL2, e_lc, e_for, e_wipe0, e_wipe, e_okI, e_okR, e_gSb, List.getElem?_cons_zero, List.getElem?_cons_succ, List.set_cons_zero, List.set_cons_succ]
  rw [es]
  refine for_inv (fun left r st' => ∃ (i : Nat) (Q2 : List (List Int)) (o : O) (x4 x5 x6 : Option D), left = (enumD (P.map rowD)).drop i ∧ r = [some (.ref p), some (.tup (P.map rowD)), some (.tup (sl.map D.int)), some (.ref st.length), x4, x5, x6] ∧ st' = st.set p o ++ [.lst (Q2.map rowD)] ∧ Q2.length = i ∧ i ≤ m ∧ (∀ x ∈ Q2, Ord n x) ∧ (∀ a, a < i → (Q2.getD a []).take (stay P sl a) = (P.getD a []).take (stay P sl a)) ∧ PotO (k + (m - i) * 17) o) ?_ ?_ _ _ _ ⟨0, [], o0, _, _, _, rfl, rfl, rfl, rfl, Nat.zero_le _, fun x hx => (by cases hx), fun a ha => absurd ha (Nat.not_lt_zero _), po0.less (by omega)⟩
  · rintro d left r st' N hN ⟨i, Q2, o, x4, x5, x6, e, rfl, rfl, lQ, le, oQ, tk, po⟩
    obtain ⟨x, ex, rfl, rfl⟩ := enum_dropG e
    rw [List.getElem?_map] at ex
    obtain ⟨y, ey, rfl⟩ := Option.map_eq_some_iff.mp ex
    have im : i < m := by rw [← lP]; exact (List.getElem?_eq_some_iff.mp ey).1
    have eg : P.getD i [] = y := by rw [List.getD_eq_getElem?_getD, ey]; rfl
    have oy : Ord n y := S.po _ (List.mem_of_getElem? ey)
    have ly := oy.len
    try simp only [e_var, e_C, e_op, e_neg, e_isN, e_notN, e_and, e_or, e_not, e_test, e_tAnd, e_tOr, e_tNot, e_tYes, e_if, e_aNil, e_aCons, e_tup, e_lst, e_lstN, e_len0, e_len1, e_len2, e_len3, e_len4, e_len5, e_cb, e_on1, e_on2, e_onI, e_onB, e_onO, e_onO0, e_onOO, e_I0, e_I, e_add, e_addT, e_addS, e_addL, e_addLR, e_addRL, e_addRR, e_mul, e_mulL, e_mulT, e_rev, e_revT, e_ix, e_eqI, e_eqS, e_eqB, e_neI, e_neS, e_neB, e_ltI, e_chain, e_len, e_abs, e_2I, e_tuple1, e_tuple2, e_tuple3, e_listT, e_listN, e_allR, e_seqT, e_seqK, e_seqL, e_isi, e_isB, e_notB, e_truth, e_next, e_drop, e_ret, e_retN, e_ifS, e_set, e_asg, e_par, e_nm, e_gsN, e_gsC, e_gTpK, e_gTpL, e_sum, e_maxL, e_minL, e_maxDef, e_int, e_intB, e_aug, e_on3, e_par3, e_newK, e_getK, e_keyI, e_keyS, e_inK, e_ninK, e_putK, e_lenK, e_lstS, e_seqX, e_gTpT, e_oN, e_oS, e_sl, e_slT, e_slL, e_finT, e_finN, e_index, e_idxT, e_idxL, e_mIx, e_ixST, e_ixSL, e_mtL, e_w, e_w1, e_w2, e_wE, e_wZ, e_itK, e_itT, e_itL, e_itT2, e_itL2, e_lc, e_for, e_wipe0, e_wipe, e_okI, e_okR, e_gSb, List.getElem?_cons_zero, List.getElem?_cons_succ, List.set_cons_zero, List.set_cons_succ]
    refine ⟨rfl, ?_⟩
    try dsimp only
    rw [e_seq]
    try simp only [e_var, e_C, e_op, e_neg, e_isN, e_notN, e_and, e_or, e_not, e_test, e_tAnd, e_tOr, e_tNot, e_tYes, e_if, e_aNil, e_aCons, e_tup, e_lst, e_lstN, e_len0, e_len1, e_len2, e_len3, e_len4, e_len5, e_cb, e_on1, e_on2, e_onI, e_onB, e_onO, e_onO0, e_onOO, e_I0, e_I, e_add, e_addT, e_addS, e_addL, e_addLR, e_addRL, e_addRR, e_mul, e_mulL, e_mulT, e_rev, e_revT, e_ix, e_eqI, e_eqS, e_eqB, e_neI, e_neS, e_neB, e_ltI, e_chain, e_len, e_abs, e_2I, e_tuple1, e_tuple2, e_tuple3, e_listT, e_listN, e_allR, e_seqT, e_seqK, e_seqL, e_isi, e_isB, e_notB, e_truth, e_next, e_drop, e_ret, e_retN, e_ifS, e_set, e_asg, e_par, e_nm, e_gsN, e_gsC, e_gTpK, e_gTpL, e_sum, e_maxL, e_minL, e_maxDef, e_int, e_intB, e_aug, e_on3, e_par3, e_newK, e_getK, e_keyI, e_keyS, e_inK, e_ninK, e_putK, e_lenK, e_lstS, e_seqX, e_gTpT, e_oN, e_oS, e_sl, e_slT, e_slL, e_finT, e_finN, e_index, e_idxT, e_idxL, e_mIx, e_ixST, e_ixSL, e_mtL, e_w, e_w1, e_w2, e_wE, e_wZ, e_itK, e_itT, e_itL, e_itT2, e_itL2, e_lc, e_for, e_wipe0, e_wipe, e_okI, e_okR, e_gSb, List.getElem?_cons_zero, List.getElem?_cons_succ, List.set_cons_zero, List.set_cons_succ]
    have fin : ∀ (c : Nat) (v : Int), v = (c : Nat) → c = stay P sl i → c ≤ n → LstD (st.set p o ++ [.lst (Q2.map rowD)]) (.ref st.length) ∧ dSlV finT (rowD y) none (some v) (st.set p o ++ [.lst (Q2.map rowD)]) fun x st1 => dSlV finT (rowD y) (some v) none st1 fun d st1 => g_shuf [D.ref p, d] st1 fun y_1 st2 => dAdd x y_1 st2 fun d st1 => mAppend (D.ref (List.length st)) [d] st1 fun x st1 => N [some (D.ref p), some (.tup (P.map rowD)), some (.tup (sl.map D.int)), some (D.ref st.length), some (D.int (i : Nat)), some (rowD y), some (D.int v)] st1 := fun c v ev ec cn => by
      subst ev
      have er : rowD y = .tup (y.map D.int) := rfl
      rw [er]
      have arith : k + (m - (i + 1)) * 17 + ((y.drop c).map D.int).length ≤ k + (m - i) * 17 := by
        rw [List.length_map, List.length_drop]
        have : m - i = m - (i + 1) + 1 := by omega
        rw [this, Nat.add_mul]
        omega
      refine ⟨by unfold LstD; simp only [own0], ?_⟩
      try simp only [e_var, e_C, e_op, e_neg, e_isN, e_notN, e_and, e_or, e_not, e_test, e_tAnd, e_tOr, e_tNot, e_tYes, e_if, e_aNil, e_aCons, e_tup, e_lst, e_lstN, e_len0, e_len1, e_len2, e_len3, e_len4, e_len5, e_cb, e_on1, e_on2, e_onI, e_onB, e_onO, e_onO0, e_onOO, e_I0, e_I, e_add, e_addT, e_addS, e_addL, e_addLR, e_addRL, e_addRR, e_mul, e_mulL, e_mulT, e_rev, e_revT, e_ix, e_eqI, e_eqS, e_eqB, e_neI, e_neS, e_neB, e_ltI, e_chain, e_len, e_abs, e_2I, e_tuple1, e_tuple2, e_tuple3, e_listT, e_listN, e_allR, e_seqT, e_seqK, e_seqL, e_isi, e_isB, e_notB, e_truth, e_next, e_drop, e_ret, e_retN, e_ifS, e_set, e_asg, e_par, e_nm, e_gsN, e_gsC, e_gTpK, e_gTpL, e_sum, e_maxL, e_minL, e_maxDef, e_int, e_intB, e_aug, e_on3, e_par3, e_newK, e_getK, e_keyI, e_keyS, e_inK, e_ninK, e_putK, e_lenK, e_lstS, e_seqX, e_gTpT, e_oN, e_oS, e_sl, e_slT, e_slL, e_finT, e_finN, e_index, e_idxT, e_idxL, e_mIx, e_ixST, e_ixSL, e_mtL, e_w, e_w1, e_w2, e_wE, e_wZ, e_itK, e_itT, e_itL, e_itT2, e_itL2, e_lc, e_for, e_wipe0, e_wipe, e_okI, e_okR, e_gSb, List.getElem?_cons_zero, List.getElem?_cons_succ, List.set_cons_zero, List.set_cons_succ, cutH, cutN]
      refine ⟨p, _, (y.drop c).map D.int, k + (m - (i + 1)) * 17, rfl, by rw [← List.map_drop]; rfl, fun z => (by cases z), by rw [List.length_map, List.length_drop]; omega, fun d hd => ?_, pot_at lt (po.less arith), fun ys o2 pm po2 => ?_⟩
      · obtain ⟨z, hz, rfl⟩ := List.mem_map.mp hd
        have := oy.mem.mp (List.mem_of_mem_drop hz)
        exact (sm_int (by omega) (by omega)).mono (by decide) (by decide)
      · rw [pot_app lt]
        obtain ⟨ns, rfl, pn⟩ := ints_perm pm
        try simp only [e_var, e_C, e_op, e_neg, e_isN, e_notN, e_and, e_or, e_not, e_test, e_tAnd, e_tOr, e_tNot, e_tYes, e_if, e_aNil, e_aCons, e_tup, e_lst, e_lstN, e_len0, e_len1, e_len2, e_len3, e_len4, e_len5, e_cb, e_on1, e_on2, e_onI, e_onB, e_onO, e_onO0, e_onOO, e_I0, e_I, e_add, e_addT, e_addS, e_addL, e_addLR, e_addRL, e_addRR, e_mul, e_mulL, e_mulT, e_rev, e_revT, e_ix, e_eqI, e_eqS, e_eqB, e_neI, e_neS, e_neB, e_ltI, e_chain, e_len, e_abs, e_2I, e_tuple1, e_tuple2, e_tuple3, e_listT, e_listN, e_allR, e_seqT, e_seqK, e_seqL, e_isi, e_isB, e_notB, e_truth, e_next, e_drop, e_ret, e_retN, e_ifS, e_set, e_asg, e_par, e_nm, e_gsN, e_gsC, e_gTpK, e_gTpL, e_sum, e_maxL, e_minL, e_maxDef, e_int, e_intB, e_aug, e_on3, e_par3, e_newK, e_getK, e_keyI, e_keyS, e_inK, e_ninK, e_putK, e_lenK, e_lstS, e_seqX, e_gTpT, e_oN, e_oS, e_sl, e_slT, e_slL, e_finT, e_finN, e_index, e_idxT, e_idxL, e_mIx, e_ixST, e_ixSL, e_mtL, e_w, e_w1, e_w2, e_wE, e_wZ, e_itK, e_itT, e_itL, e_itT2, e_itL2, e_lc, e_for, e_wipe0, e_wipe, e_okI, e_okR, e_gSb, List.getElem?_cons_zero, List.getElem?_cons_succ, List.set_cons_zero, List.set_cons_succ]
        rw [← List.map_take, ← List.map_append]
        have pr : (y.take c ++ ns).Perm y := by
          have := List.Perm.append_left (y.take c) pn
          rw [List.take_append_drop] at this
          exact this
        refine ⟨by have := pr.length_eq; rw [List.length_append] at this; rw [List.length_map, List.length_map, List.length_take] at *; omega, ?_⟩
        refine append_ref own0 (by rw [List.length_map]; omega) ?_
        rw [put0]
        refine hN _ _ (.inl ⟨i + 1, Q2 ++ [y.take c ++ ns], o2, _, _, _, rfl, rfl, by simp only [List.map_append, List.map_cons, List.map_nil, rowD], by rw [List.length_append, lQ]; rfl, by omega, fun x hx => ?_, fun a ha => ?_, po2⟩)
        · rcases List.mem_append.mp hx with z | z
          · exact oQ x z
          · rw [List.mem_singleton.mp z]; exact oy.of_perm pr
        · rcases Nat.lt_or_ge a i with l | l
          · have e3 : (Q2 ++ [y.take c ++ ns]).getD a [] = Q2.getD a [] := by rw [List.getD_eq_getElem?_getD, List.getElem?_append_left (by omega), ← List.getD_eq_getElem?_getD]
            rw [e3]
            exact tk a l
          · have ea : a = i := by omega
            subst ea
            have e3 : (Q2 ++ [y.take c ++ ns]).getD a [] = y.take c ++ ns := by rw [List.getD_eq_getElem?_getD, List.getElem?_append_right (by omega), lQ]; simp
            rw [e3, eg, ← ec, List.take_append_of_le_length (by rw [List.length_take]; omega), List.take_take, Nat.min_self]
    refine nin_seqI (ns := sl) rfl ?_
    by_cases c1 : (i : Int) ∈ sl
    · refine iteT' (decide_eq_true c1) ?_
      obtain ⟨s, hs⟩ := mem_lay.mp c1
      have sn := (L.key hs).2
      have es : pos sl (i : Int) = s := by unfold pos; rw [lay_ix L hs]; rfl
      have e1 := (S.rk_at im sn).2.2
      rw [eg] at e1
      have e2 := (S.rk_at im sn).2.1
      try simp only [e_var, e_C, e_op, e_neg, e_isN, e_notN, e_and, e_or, e_not, e_test, e_tAnd, e_tOr, e_tNot, e_tYes, e_if, e_aNil, e_aCons, e_tup, e_lst, e_lstN, e_len0, e_len1, e_len2, e_len3, e_len4, e_len5, e_cb, e_on1, e_on2, e_onI, e_onB, e_onO, e_onO0, e_onOO, e_I0, e_I, e_add, e_addT, e_addS, e_addL, e_addLR, e_addRL, e_addRR, e_mul, e_mulL, e_mulT, e_rev, e_revT, e_ix, e_eqI, e_eqS, e_eqB, e_neI, e_neS, e_neB, e_ltI, e_chain, e_len, e_abs, e_2I, e_tuple1, e_tuple2, e_tuple3, e_listT, e_listN, e_allR, e_seqT, e_seqK, e_seqL, e_isi, e_isB, e_notB, e_truth, e_next, e_drop, e_ret, e_retN, e_ifS, e_set, e_asg, e_par, e_nm, e_gsN, e_gsC, e_gTpK, e_gTpL, e_sum, e_maxL, e_minL, e_maxDef, e_int, e_intB, e_aug, e_on3, e_par3, e_newK, e_getK, e_keyI, e_keyS, e_inK, e_ninK, e_putK, e_lenK, e_lstS, e_seqX, e_gTpT, e_oN, e_oS, e_sl, e_slT, e_slL, e_finT, e_finN, e_index, e_idxT, e_idxL, e_mIx, e_ixST, e_ixSL, e_mtL, e_w, e_w1, e_w2, e_wE, e_wZ, e_itK, e_itT, e_itL, e_itT2, e_itL2, e_lc, e_for, e_wipe0, e_wipe, e_okI, e_okR, e_gSb, List.getElem?_cons_zero, List.getElem?_cons_succ, List.set_cons_zero, List.set_cons_succ, intsD_ints, lay_ix L hs]
      refine ⟨True.intro, trivial, ?_⟩
      rw [show ixS (st.set p o ++ [.lst (Q2.map rowD)]) (rowD y) = some (y.map D.int) from rfl, e_onO, intsD_ints, e_onO, e1, e_onO]
      have ec : stay P sl i = rk P i s + 1 := by unfold stay; rw [if_pos c1, es]
      exact fin (rk P i s + 1) _ (by omega) ec.symm (by omega)
    · refine iteF' (decide_eq_false c1) ?_
      have ec : stay P sl i = 0 := by unfold stay; rw [if_neg c1]
      exact fin 0 _ rfl ec.symm (by omega)
  · rintro r st' ⟨i, Q2, o, x4, x5, x6, e, rfl, rfl, lQ, le, oQ, tk, po⟩
    have ei : i = m := by
      have := List.drop_eq_nil_iff.mp e.symm
      rw [enumD_length, List.length_map] at this
      omega
    subst ei
    try simp only [e_var, e_C, e_op, e_neg, e_isN, e_notN, e_and, e_or, e_not, e_test, e_tAnd, e_tOr, e_tNot, e_tYes, e_if, e_aNil, e_aCons, e_tup, e_lst, e_lstN, e_len0, e_len1, e_len2, e_len3, e_len4, e_len5, e_cb, e_on1, e_on2, e_onI, e_onB, e_onO, e_onO0, e_onOO, e_I0, e_I, e_add, e_addT, e_addS, e_addL, e_addLR, e_addRL, e_addRR, e_mul, e_mulL, e_mulT, e_rev, e_revT, e_ix, e_eqI, e_eqS, e_eqB, e_neI, e_neS, e_neB, e_ltI, e_chain, e_len, e_abs, e_2I, e_tuple1, e_tuple2, e_tuple3, e_listT, e_listN, e_allR, e_seqT, e_seqK, e_seqL, e_isi, e_isB, e_notB, e_truth, e_next, e_drop, e_ret, e_retN, e_ifS, e_set, e_asg, e_par, e_nm, e_gsN, e_gsC, e_gTpK, e_gTpL, e_sum, e_maxL, e_minL, e_maxDef, e_int, e_intB, e_aug, e_on3, e_par3, e_newK, e_getK, e_keyI, e_keyS, e_inK, e_ninK, e_putK, e_lenK, e_lstS, e_seqX, e_gTpT, e_oN, e_oS, e_sl, e_slT, e_slL, e_finT, e_finN, e_index, e_idxT, e_idxL, e_mIx, e_ixST, e_ixSL, e_mtL, e_w, e_w1, e_w2, e_wE, e_wZ, e_itK, e_itT, e_itL, e_itT2, e_itL2, e_lc, e_for, e_wipe0, e_wipe, e_okI, e_okR, e_gSb, List.getElem?_cons_zero, List.getElem?_cons_succ, List.set_cons_zero, List.set_cons_succ, seq_ref own0]
    exact rt_drop List.length_set (by simp only [DL.clo]; exact clos_rows _ _) (cs_set po) (q Q2 o lQ oQ tk (po.less (by omega)))
end DL
namespace DL
open PySem PySem.Spec PyProof.Rows L2 LamX PySem.W SL
theorem insert_ref75 {st : DSt} {n : Nat} {xs : List D} {i : Int} {y : D} {Q : DK} (e : st[n]? = some (.lst xs)) (b : xs.length < sizeLine ∧ 0 ≤ i ∧ i < 2 ^ 63) (q : Q .non (st.set n (.lst (xs.take i.toNat ++ [y] ++ xs.drop i.toNat)))) : mInsert (.ref n) [.int i, y] st Q := by
  unfold mInsert
  simp only [e_on2, e_onI, onL, e]
  exact ⟨b, q⟩
def g_otherO : DRs := fun ds st Q => ∃ (p k m : Nat) (ns wi : List Int), ds = [.ref p, rowD ns, .lst (wi.map D.int)] ∧ Pot (k + 20) p st ∧ m ≤ 16 ∧ Ord m ns ∧ wi.length ≤ 900 ∧ ∀ (n2 : List Int) (o : O), Ord m n2 → n2.filter (fun x => decide (x ∈ wi)) = ns.filter (fun x => decide (x ∈ wi)) → PotO k o → Q (rowD n2) (st.set p o)
theorem ar_otherO (ds : List D) (st : DSt) (Q : DK) (h : g_otherO ds st Q) : ds.length = 3 := by
  obtain ⟨_, _, _, _, _, rfl, _⟩ := h
  rfl
set_option maxHeartbeats 4000000 in
theorem sem_otherO (ds : List D) (st : DSt) (Q : DK) (h : g_otherO ds st Q) : F__law_other_order g_take { nx := fun _ st' => Rt st Q .non st', rt := Rt st Q } (startD 5 ds) st := by
  obtain ⟨p, k, m, ns, wi, rfl, pot, m16, O, lw, q⟩ := h
  have lt := pot.lt
  have st5 : startD 5 [D.ref p, rowD ns, D.lst (wi.map D.int)] = [some (.ref p), some (.tup (ns.map D.int)), some (.lst (wi.map D.int)), none, none] := rfl
  have big : (1000 : Nat) ≤ sizeLine := by decide
  obtain ⟨o0, eo, po0⟩ := pot
  have es : ∀ x : DL.O, st ++ [x] = st.set p o0 ++ [x] := fun x => by rw [set_same eo]
  have ln := O.len
  simp only [F__law_other_order, st5]
  try dsimp only
  rw [e_seq]
  try simp only [e_var, e_C, e_op, e_neg, e_isN, e_notN, e_and, e_or, e_not, e_test, e_tAnd, e_tOr, e_tNot, e_tYes, e_if, e_aNil, e_aCons, e_tup, e_lst, e_lstN, e_len0, e_len1, e_len2, e_len3, e_len4, e_len5, e_cb, e_on1, e_on2, e_onI, e_onB, e_onO, e_onO0, e_onOO, e_I0, e_I, e_add, e_addT, e_addS, e_addL, e_addLR, e_addRL, e_addRR, e_mul, e_mulL, e_mulT, e_rev, e_revT, e_ix, e_eqI, e_eqS, e_eqB, e_neI, e_neS, e_neB, e_ltI, e_chain, e_len, e_abs, e_2I, e_tuple1, e_tuple2, e_tuple3, e_listT, e_listN, e_allR, e_seqT, e_seqK, e_seqL, e_isi, e_isB, e_notB, e_truth, e_next, e_drop, e_ret, e_retN, e_ifS, e_set, e_asg, e_par, e_nm, e_gsN, e_gsC, e_gTpK, e_gTpL, e_sum, e_maxL, e_minL, e_maxDef, e_int, e_intB, e_aug, e_on3, e_par3, e_newK, e_getK, e_keyI, e_keyS, e_inK, e_ninK, e_putK, e_lenK, e_lstS, e_seqX, e_gTpT, e_oN, e_oS, e_sl, e_slT, e_slL, e_finT, e_finN, e_index, e_idxT, e_idxL, e_mIx, e_ixST, e_ixSL, e_mtL, e_w, e_w1, e_w2, e_wE, e_wZ, e_itK, e_itT, e_itL, e_itT2, e_itL2, e_lc, e_for, e_wipe0, e_wipe, e_okI, e_okR, e_gSb, List.getElem?_cons_zero, List.getElem?_cons_succ, List.set_cons_zero, List.set_cons_succ]
  refine ⟨by rw [List.length_map]; omega, ?_⟩
  refine lc_if (fun d => match d with | .int i => decide (i ∈ wi) | _ => false) id (fun d hd Q' q' => ?_) (fun d hd _ Q' q' => ?_) ?_
  · obtain ⟨x, hx, rfl⟩ := List.mem_map.mp hd
    try simp only [e_var, e_C, e_op, e_neg, e_isN, e_notN, e_and, e_or, e_not, e_test, e_tAnd, e_tOr, e_tNot, e_tYes, e_if, e_aNil, e_aCons, e_tup, e_lst, e_lstN, e_len0, e_len1, e_len2, e_len3, e_len4, e_len5, e_cb, e_on1, e_on2, e_onI, e_onB, e_onO, e_onO0, e_onOO, e_I0, e_I, e_add, e_addT, e_addS, e_addL, e_addLR, e_addRL, e_addRR, e_mul, e_mulL, e_mulT, e_rev, e_revT, e_ix, e_eqI, e_eqS, e_eqB, e_neI, e_neS, e_neB, e_ltI, e_chain, e_len, e_abs, e_2I, e_tuple1, e_tuple2, e_tuple3, e_listT, e_listN, e_allR, e_seqT, e_seqK, e_seqL, e_isi, e_isB, e_notB, e_truth, e_next, e_drop, e_ret, e_retN, e_ifS, e_set, e_asg, e_par, e_nm, e_gsN, e_gsC, e_gTpK, e_gTpL, e_sum, e_maxL, e_minL, e_maxDef, e_int, e_intB, e_aug, e_on3, e_par3, e_newK, e_getK, e_keyI, e_keyS, e_inK, e_ninK, e_putK, e_lenK, e_lstS, e_seqX, e_gTpT, e_oN, e_oS, e_sl, e_slT, e_slL, e_finT, e_finN, e_index, e_idxT, e_idxL, e_mIx, e_ixST, e_ixSL, e_mtL, e_w, e_w1, e_w2, e_wE, e_wZ, e_itK, e_itT, e_itL, e_itT2, e_itL2, e_lc, e_for, e_wipe0, e_wipe, e_okI, e_okR, e_gSb, List.getElem?_cons_zero, List.getElem?_cons_succ, List.set_cons_zero, List.set_cons_succ]
    refine nin_seqI (ns := wi) rfl ?_
    exact q'
  · obtain ⟨x, hx, rfl⟩ := List.mem_map.mp hd
    try simp only [e_var, e_C, e_op, e_neg, e_isN, e_notN, e_and, e_or, e_not, e_test, e_tAnd, e_tOr, e_tNot, e_tYes, e_if, e_aNil, e_aCons, e_tup, e_lst, e_lstN, e_len0, e_len1, e_len2, e_len3, e_len4, e_len5, e_cb, e_on1, e_on2, e_onI, e_onB, e_onO, e_onO0, e_onOO, e_I0, e_I, e_add, e_addT, e_addS, e_addL, e_addLR, e_addRL, e_addRR, e_mul, e_mulL, e_mulT, e_rev, e_revT, e_ix, e_eqI, e_eqS, e_eqB, e_neI, e_neS, e_neB, e_ltI, e_chain, e_len, e_abs, e_2I, e_tuple1, e_tuple2, e_tuple3, e_listT, e_listN, e_allR, e_seqT, e_seqK, e_seqL, e_isi, e_isB, e_notB, e_truth, e_next, e_drop, e_ret, e_retN, e_ifS, e_set, e_asg, e_par, e_nm, e_gsN, e_gsC, e_gTpK, e_gTpL, e_sum, e_maxL, e_minL, e_maxDef, e_int, e_intB, e_aug, e_on3, e_par3, e_newK, e_getK, e_keyI, e_keyS, e_inK, e_ninK, e_putK, e_lenK, e_lstS, e_seqX, e_gTpT, e_oN, e_oS, e_sl, e_slT, e_slL, e_finT, e_finN, e_index, e_idxT, e_idxL, e_mIx, e_ixST, e_ixSL, e_mtL, e_w, e_w1, e_w2, e_wE, e_wZ, e_itK, e_itT, e_itL, e_itT2, e_itL2, e_lc, e_for, e_wipe0, e_wipe, e_okI, e_okR, e_gSb, List.getElem?_cons_zero, List.getElem?_cons_succ, List.set_cons_zero, List.set_cons_succ]
    exact q'
  have ef : ((ns.map D.int).filter (fun d => match d with | .int i => decide (i ∈ wi) | _ => false)) = (ns.filter fun x => decide (x ∈ wi)).map D.int := by
    rw [List.filter_map]
    rfl
  rw [List.map_id, ef]
  try simp only [e_var, e_C, e_op, e_neg, e_isN, e_notN, e_and, e_or, e_not, e_test, e_tAnd, e_tOr, e_tNot, e_tYes, e_if, e_aNil, e_aCons, e_tup, e_lst, e_lstN, e_len0, e_len1, e_len2, e_len3, e_len4, e_len5, e_cb, e_on1, e_on2, e_onI, e_onB, e_onO, e_onO0, e_onOO, e_I0, e_I, e_add, e_addT, e_addS, e_addL, e_addLR, e_addRL, e_addRR, e_mul, e_mulL, e_mulT, e_rev, e_revT, e_ix, e_eqI, e_eqS, e_eqB, e_neI, e_neS, e_neB, e_ltI, e_chain, e_len, e_abs, e_2I, e_tuple1, e_tuple2, e_tuple3, e_listT, e_listN, e_allR, e_seqT, e_seqK, e_seqL, e_isi, e_isB, e_notB, e_truth, e_next, e_drop, e_ret, e_retN, e_ifS, e_set, e_asg, e_par, e_nm, e_gsN, e_gsC, e_gTpK, e_gTpL, e_sum, e_maxL, e_minL, e_maxDef, e_int, e_intB, e_aug, e_on3, e_par3, e_newK, e_getK, e_keyI, e_keyS, e_inK, e_ninK, e_putK, e_lenK, e_lstS, e_seqX, e_gTpT, e_oN, e_oS, e_sl, e_slT, e_slL, e_finT, e_finN, e_index, e_idxT, e_idxL, e_mIx, e_ixST, e_ixSL, e_mtL, e_w, e_w1, e_w2, e_wE, e_wZ, e_itK, e_itT, e_itL, e_itT2, e_itL2, e_lc, e_for, e_wipe0, e_wipe, e_okI, e_okR, e_gSb, List.getElem?_cons_zero, List.getElem?_cons_succ, List.set_cons_zero, List.set_cons_succ]
  rw [es]
  have l0 : (ns.filter fun x => decide (x ∈ wi)).length ≤ m := by
    have := List.length_filter_le (fun x => decide (x ∈ wi)) ns
    omega
  refine for_list (fun z : Int => D.int z) (fun left r st' => ∃ (dn found : List Int) (o : DL.O) (x3 : Option D), dn ++ left = ns ∧ r = [some (.ref p), some (.tup (ns.map D.int)), some (.lst (wi.map D.int)), x3, some (.ref st.length)] ∧ st' = st.set p o ++ [.lst (found.map D.int)] ∧ found.Perm (ns.filter (fun x => decide (x ∈ wi)) ++ dn.filter (fun x => !decide (x ∈ wi))) ∧ found.filter (fun x => decide (x ∈ wi)) = ns.filter (fun x => decide (x ∈ wi)) ∧ PotO (k + left.length) o) ?_ ?_ ns _ _ ⟨[], _, o0, _, rfl, rfl, rfl, by simp, by rw [List.filter_filter]; simp, po0.less (by omega)⟩
  · rintro a left r st' N hN ⟨dn, found, o, x3, e, rfl, rfl, pm, ff, po⟩
    rw [List.length_cons] at po
    have lf : found.length ≤ 32 := by
      have h1 := pm.length_eq
      rw [List.length_append] at h1
      have h2 := List.length_filter_le (fun x => !decide (x ∈ wi)) dn
      have h3 : dn.length + (left.length + 1) = ns.length := by rw [← e, List.length_append, List.length_cons]
      omega
    try simp only [e_var, e_C, e_op, e_neg, e_isN, e_notN, e_and, e_or, e_not, e_test, e_tAnd, e_tOr, e_tNot, e_tYes, e_if, e_aNil, e_aCons, e_tup, e_lst, e_lstN, e_len0, e_len1, e_len2, e_len3, e_len4, e_len5, e_cb, e_on1, e_on2, e_onI, e_onB, e_onO, e_onO0, e_onOO, e_I0, e_I, e_add, e_addT, e_addS, e_addL, e_addLR, e_addRL, e_addRR, e_mul, e_mulL, e_mulT, e_rev, e_revT, e_ix, e_eqI, e_eqS, e_eqB, e_neI, e_neS, e_neB, e_ltI, e_chain, e_len, e_abs, e_2I, e_tuple1, e_tuple2, e_tuple3, e_listT, e_listN, e_allR, e_seqT, e_seqK, e_seqL, e_isi, e_isB, e_notB, e_truth, e_next, e_drop, e_ret, e_retN, e_ifS, e_set, e_asg, e_par, e_nm, e_gsN, e_gsC, e_gTpK, e_gTpL, e_sum, e_maxL, e_minL, e_maxDef, e_int, e_intB, e_aug, e_on3, e_par3, e_newK, e_getK, e_keyI, e_keyS, e_inK, e_ninK, e_putK, e_lenK, e_lstS, e_seqX, e_gTpT, e_oN, e_oS, e_sl, e_slT, e_slL, e_finT, e_finN, e_index, e_idxT, e_idxL, e_mIx, e_ixST, e_ixSL, e_mtL, e_w, e_w1, e_w2, e_wE, e_wZ, e_itK, e_itT, e_itL, e_itT2, e_itL2, e_lc, e_for, e_wipe0, e_wipe, e_okI, e_okR, e_gSb, List.getElem?_cons_zero, List.getElem?_cons_succ, List.set_cons_zero, List.set_cons_succ]
    refine nin_seq (ns := wi) rfl ?_
    by_cases c : a ∈ wi
    · rw [e_onB, decide_eq_true c, if_neg (by decide)]
      refine hN _ _ (.inl ⟨dn ++ [a], found, o, _, by rw [List.append_assoc]; exact e, rfl, rfl, ?_, ff, po.less (by omega)⟩)
      rw [List.filter_append]
      have : [a].filter (fun x => !decide (x ∈ wi)) = [] := by simp [c]
      rw [this, List.append_nil]
      exact pm
    · rw [e_onB, decide_eq_false c, if_pos (by decide)]
      try simp only [e_var, e_C, e_op, e_neg, e_isN, e_notN, e_and, e_or, e_not, e_test, e_tAnd, e_tOr, e_tNot, e_tYes, e_if, e_aNil, e_aCons, e_tup, e_lst, e_lstN, e_len0, e_len1, e_len2, e_len3, e_len4, e_len5, e_cb, e_on1, e_on2, e_onI, e_onB, e_onO, e_onO0, e_onOO, e_I0, e_I, e_add, e_addT, e_addS, e_addL, e_addLR, e_addRL, e_addRR, e_mul, e_mulL, e_mulT, e_rev, e_revT, e_ix, e_eqI, e_eqS, e_eqB, e_neI, e_neS, e_neB, e_ltI, e_chain, e_len, e_abs, e_2I, e_tuple1, e_tuple2, e_tuple3, e_listT, e_listN, e_allR, e_seqT, e_seqK, e_seqL, e_isi, e_isB, e_notB, e_truth, e_next, e_drop, e_ret, e_retN, e_ifS, e_set, e_asg, e_par, e_nm, e_gsN, e_gsC, e_gTpK, e_gTpL, e_sum, e_maxL, e_minL, e_maxDef, e_int, e_intB, e_aug, e_on3, e_par3, e_newK, e_getK, e_keyI, e_keyS, e_inK, e_ninK, e_putK, e_lenK, e_lstS, e_seqX, e_gTpT, e_oN, e_oS, e_sl, e_slT, e_slL, e_finT, e_finN, e_index, e_idxT, e_idxL, e_mIx, e_ixST, e_ixSL, e_mtL, e_w, e_w1, e_w2, e_wE, e_wZ, e_itK, e_itT, e_itL, e_itT2, e_itL2, e_lc, e_for, e_wipe0, e_wipe, e_okI, e_okR, e_gSb, List.getElem?_cons_zero, List.getElem?_cons_succ, List.set_cons_zero, List.set_cons_succ, seq_ref own0]
      refine ⟨by unfold LstD; simp only [own0], ?_⟩
      rw [List.length_map]
      refine take_ev (n := k + left.length) (pot_at lt (po.less (by omega))) (by omega) (by omega) fun w o2 lw2 po2 => ?_
      rw [pot_app lt]
      refine insert_ref75 own0 ⟨by rw [List.length_map]; omega, by omega, by omega⟩ ?_
      rw [put0, Int.toNat_natCast]
      have en : (found.map D.int).take w ++ [D.int a] ++ (found.map D.int).drop w = (found.take w ++ [a] ++ found.drop w).map D.int := by
        rw [← List.map_take, ← List.map_drop, List.map_append, List.map_append]
        rfl
      rw [en]
      refine hN _ _ (.inl ⟨dn ++ [a], _, o2, _, by rw [List.append_assoc]; exact e, rfl, rfl, ?_, ?_, po2⟩)
      · have p1 : (found.take w ++ [a] ++ found.drop w).Perm (found ++ [a]) := by
          have h1 : (found.take w ++ [a] ++ found.drop w).Perm (found.take w ++ found.drop w ++ [a]) := by
            rw [List.append_assoc, List.append_assoc]
            exact List.Perm.append_left _ List.perm_append_comm
          rw [List.take_append_drop] at h1
          exact h1
        refine p1.trans ?_
        rw [List.filter_append, ← List.append_assoc]
        have : [a].filter (fun x => !decide (x ∈ wi)) = [a] := by simp [c]
        rw [this]
        exact List.Perm.append_right _ pm
      · rw [List.filter_append, List.filter_append]
        have : [a].filter (fun x => decide (x ∈ wi)) = [] := by simp [c]
        rw [this, List.append_nil, ← List.filter_append, List.take_append_drop]
        exact ff
  · rintro r st' ⟨dn, found, o, x3, e, rfl, rfl, pm, ff, po⟩
    rw [List.append_nil] at e
    subst e
    try simp only [e_var, e_C, e_op, e_neg, e_isN, e_notN, e_and, e_or, e_not, e_test, e_tAnd, e_tOr, e_tNot, e_tYes, e_if, e_aNil, e_aCons, e_tup, e_lst, e_lstN, e_len0, e_len1, e_len2, e_len3, e_len4, e_len5, e_cb, e_on1, e_on2, e_onI, e_onB, e_onO, e_onO0, e_onOO, e_I0, e_I, e_add, e_addT, e_addS, e_addL, e_addLR, e_addRL, e_addRR, e_mul, e_mulL, e_mulT, e_rev, e_revT, e_ix, e_eqI, e_eqS, e_eqB, e_neI, e_neS, e_neB, e_ltI, e_chain, e_len, e_abs, e_2I, e_tuple1, e_tuple2, e_tuple3, e_listT, e_listN, e_allR, e_seqT, e_seqK, e_seqL, e_isi, e_isB, e_notB, e_truth, e_next, e_drop, e_ret, e_retN, e_ifS, e_set, e_asg, e_par, e_nm, e_gsN, e_gsC, e_gTpK, e_gTpL, e_sum, e_maxL, e_minL, e_maxDef, e_int, e_intB, e_aug, e_on3, e_par3, e_newK, e_getK, e_keyI, e_keyS, e_inK, e_ninK, e_putK, e_lenK, e_lstS, e_seqX, e_gTpT, e_oN, e_oS, e_sl, e_slT, e_slL, e_finT, e_finN, e_index, e_idxT, e_idxL, e_mIx, e_ixST, e_ixSL, e_mtL, e_w, e_w1, e_w2, e_wE, e_wZ, e_itK, e_itT, e_itL, e_itT2, e_itL2, e_lc, e_for, e_wipe0, e_wipe, e_okI, e_okR, e_gSb, List.getElem?_cons_zero, List.getElem?_cons_succ, List.set_cons_zero, List.set_cons_succ, seq_ref own0]
    refine rt_drop List.length_set (by simp only [DL.clo]; exact clos_ints _ _) (cs_set po) (q found o (O.of_perm ?_) ff (po.less (by omega)))
    exact pm.trans (List.filter_append_perm _ _)
def g_paths : DRs := fun ds st Q => ∃ (m n : Nat) (P : List (List Int)) (R : List (List (List Int))) (h : List Nat), ds = [rowsD P, tabsD R, histD h] ∧ Setg m n P R ∧ m ≤ 60 ∧ n ≤ 60 ∧ 0 < n ∧ Hist m n h ∧ Q (.tup [rowD (layF P R h), .lst ((pathsF P R h).map pathD)]) st
theorem ar_paths (ds : List D) (st : DSt) (Q : DK) (h : g_paths ds st Q) : ds.length = 3 := by
  obtain ⟨_, _, _, _, _, rfl, _⟩ := h
  rfl
theorem clos_paths (n : Nat) : ∀ ps : List (List (Nat × Nat)), clos n (ps.map pathD) = true
  | [] => rfl
  | x :: r => by
    rw [List.map_cons]
    show (clo n (pathD x) && clos n (r.map pathD)) = true
    rw [clos_paths n r, Bool.and_true]
    exact clos_pairs n x
set_option maxHeartbeats 2000000 in
theorem sem_paths (ds : List D) (st : DSt) (Q : DK) (h : g_paths ds st Q) : F__law_paths g_insert { nx := fun _ st' => Rt st Q .non st', rt := Rt st Q } (startD 7 ds) st := by
  obtain ⟨m, n, P, R, h, rfl, S, m60, n60, n0, H, q⟩ := h
  have st7 : startD 7 [rowsD P, tabsD R, histD h] = [some (.tup (P.map rowD)), some (.tup (R.map rowsD)), some (.tup (h.map fun k : Nat => .int (k : Nat))), none, none, none, none] := rfl
  have rl := S.rl
  have few := H.few
  have big : (1000 : Nat) ≤ sizeLine := by decide
  simp only [F__law_paths, st7]
  try dsimp only
  rw [e_seq]
  try simp only [e_var, e_C, e_op, e_neg, e_isN, e_notN, e_and, e_or, e_not, e_test, e_tAnd, e_tOr, e_tNot, e_tYes, e_if, e_aNil, e_aCons, e_tup, e_lst, e_lstN, e_len0, e_len1, e_len2, e_len3, e_len4, e_len5, e_cb, e_on1, e_on2, e_onI, e_onB, e_onO, e_onO0, e_onOO, e_I0, e_I, e_add, e_addT, e_addS, e_addL, e_addLR, e_addRL, e_addRR, e_mul, e_mulL, e_mulT, e_rev, e_revT, e_ix, e_eqI, e_eqS, e_eqB, e_neI, e_neS, e_neB, e_ltI, e_chain, e_len, e_abs, e_2I, e_tuple1, e_tuple2, e_tuple3, e_listT, e_listN, e_allR, e_seqT, e_seqK, e_seqL, e_isi, e_isB, e_notB, e_truth, e_next, e_drop, e_ret, e_retN, e_ifS, e_set, e_asg, e_par, e_nm, e_gsN, e_gsC, e_gTpK, e_gTpL, e_sum, e_maxL, e_minL, e_maxDef, e_int, e_intB, e_aug, e_on3, e_par3, e_newK, e_getK, e_keyI, e_keyS, e_inK, e_ninK, e_putK, e_lenK, e_lstS, e_seqX, e_gTpT, e_oN, e_oS, e_sl, e_slT, e_slL, e_finT, e_finN, e_index, e_idxT, e_idxL, e_mIx, e_ixST, e_ixSL, e_mtL, e_w, e_w1, e_w2, e_wE, e_wZ, e_itK, e_itT, e_itL, e_itT2, e_itL2, e_lc, e_for, e_wipe0, e_wipe, e_okI, e_okR, e_gSb, List.getElem?_cons_zero, List.getElem?_cons_succ, List.set_cons_zero, List.set_cons_succ, List.length_map, rl, Int.toNat_natCast]
  refine ⟨fun z => (by cases z), by omega, by omega, by simp, ?_⟩
  rw [emp_map]
  try dsimp only
  rw [e_seq]
  try simp only [e_var, e_C, e_op, e_neg, e_isN, e_notN, e_and, e_or, e_not, e_test, e_tAnd, e_tOr, e_tNot, e_tYes, e_if, e_aNil, e_aCons, e_tup, e_lst, e_lstN, e_len0, e_len1, e_len2, e_len3, e_len4, e_len5, e_cb, e_on1, e_on2, e_onI, e_onB, e_onO, e_onO0, e_onOO, e_I0, e_I, e_add, e_addT, e_addS, e_addL, e_addLR, e_addRL, e_addRR, e_mul, e_mulL, e_mulT, e_rev, e_revT, e_ix, e_eqI, e_eqS, e_eqB, e_neI, e_neS, e_neB, e_ltI, e_chain, e_len, e_abs, e_2I, e_tuple1, e_tuple2, e_tuple3, e_listT, e_listN, e_allR, e_seqT, e_seqK, e_seqL, e_isi, e_isB, e_notB, e_truth, e_next, e_drop, e_ret, e_retN, e_ifS, e_set, e_asg, e_par, e_nm, e_gsN, e_gsC, e_gTpK, e_gTpL, e_sum, e_maxL, e_minL, e_maxDef, e_int, e_intB, e_aug, e_on3, e_par3, e_newK, e_getK, e_keyI, e_keyS, e_inK, e_ninK, e_putK, e_lenK, e_lstS, e_seqX, e_gTpT, e_oN, e_oS, e_sl, e_slT, e_slL, e_finT, e_finN, e_index, e_idxT, e_idxL, e_mIx, e_ixST, e_ixSL, e_mtL, e_w, e_w1, e_w2, e_wE, e_wZ, e_itK, e_itT, e_itL, e_itT2, e_itL2, e_lc, e_for, e_wipe0, e_wipe, e_okI, e_okR, e_gSb, List.getElem?_cons_zero, List.getElem?_cons_succ, List.set_cons_zero, List.set_cons_succ]
  refine for_list (fun k : Nat => D.int (k : Nat)) (fun left r st' => ∃ (dn : List Nat) (ps : List (List (Nat × Nat))) (x5 x6 : Option D), dn ++ left = h ∧ ps ++ pathsG P R (layF P R dn) left = pathsF P R h ∧ ps.length = dn.length ∧ r = [some (.tup (P.map rowD)), some (.tup (R.map rowsD)), some (.tup (h.map fun k : Nat => .int (k : Nat))), some (.tup ((layF P R dn).map D.int)), some (.ref st.length), x5, x6] ∧ st' = st ++ [.lst (ps.map pathD)]) ?_ ?_ h _ _ ⟨[], [], _, _, rfl, ?_, rfl, by unfold layF layG; rw [rl]; rfl, rfl⟩
  · rintro a left r st' N hN ⟨dn, ps, x5, x6, e, ep, lp, rfl, rfl⟩
    have G := hist_go (dn := dn) S (by rw [e]; exact H)
    have ld : dn.length + (left.length + 1) = h.length := by rw [← e, List.length_append, List.length_cons]
    try simp only [e_var, e_C, e_op, e_neg, e_isN, e_notN, e_and, e_or, e_not, e_test, e_tAnd, e_tOr, e_tNot, e_tYes, e_if, e_aNil, e_aCons, e_tup, e_lst, e_lstN, e_len0, e_len1, e_len2, e_len3, e_len4, e_len5, e_cb, e_on1, e_on2, e_onI, e_onB, e_onO, e_onO0, e_onOO, e_I0, e_I, e_add, e_addT, e_addS, e_addL, e_addLR, e_addRL, e_addRR, e_mul, e_mulL, e_mulT, e_rev, e_revT, e_ix, e_eqI, e_eqS, e_eqB, e_neI, e_neS, e_neB, e_ltI, e_chain, e_len, e_abs, e_2I, e_tuple1, e_tuple2, e_tuple3, e_listT, e_listN, e_allR, e_seqT, e_seqK, e_seqL, e_isi, e_isB, e_notB, e_truth, e_next, e_drop, e_ret, e_retN, e_ifS, e_set, e_asg, e_par, e_nm, e_gsN, e_gsC, e_gTpK, e_gTpL, e_sum, e_maxL, e_minL, e_maxDef, e_int, e_intB, e_aug, e_on3, e_par3, e_newK, e_getK, e_keyI, e_keyS, e_inK, e_ninK, e_putK, e_lenK, e_lstS, e_seqX, e_gTpT, e_oN, e_oS, e_sl, e_slT, e_slL, e_finT, e_finN, e_index, e_idxT, e_idxL, e_mIx, e_ixST, e_ixSL, e_mtL, e_w, e_w1, e_w2, e_wE, e_wZ, e_itK, e_itT, e_itL, e_itT2, e_itL2, e_lc, e_for, e_wipe0, e_wipe, e_okI, e_okR, e_gSb, List.getElem?_cons_zero, List.getElem?_cons_succ, List.set_cons_zero, List.set_cons_succ]
    refine ⟨m, n, P, R, layF P R dn, a, rfl, S, m60, n60, G, ?_⟩
    try simp only [e_var, e_C, e_op, e_neg, e_isN, e_notN, e_and, e_or, e_not, e_test, e_tAnd, e_tOr, e_tNot, e_tYes, e_if, e_aNil, e_aCons, e_tup, e_lst, e_lstN, e_len0, e_len1, e_len2, e_len3, e_len4, e_len5, e_cb, e_on1, e_on2, e_onI, e_onB, e_onO, e_onO0, e_onOO, e_I0, e_I, e_add, e_addT, e_addS, e_addL, e_addLR, e_addRL, e_addRR, e_mul, e_mulL, e_mulT, e_rev, e_revT, e_ix, e_eqI, e_eqS, e_eqB, e_neI, e_neS, e_neB, e_ltI, e_chain, e_len, e_abs, e_2I, e_tuple1, e_tuple2, e_tuple3, e_listT, e_listN, e_allR, e_seqT, e_seqK, e_seqL, e_isi, e_isB, e_notB, e_truth, e_next, e_drop, e_ret, e_retN, e_ifS, e_set, e_asg, e_par, e_nm, e_gsN, e_gsC, e_gTpK, e_gTpL, e_sum, e_maxL, e_minL, e_maxDef, e_int, e_intB, e_aug, e_on3, e_par3, e_newK, e_getK, e_keyI, e_keyS, e_inK, e_ninK, e_putK, e_lenK, e_lstS, e_seqX, e_gTpT, e_oN, e_oS, e_sl, e_slT, e_slL, e_finT, e_finN, e_index, e_idxT, e_idxL, e_mIx, e_ixST, e_ixSL, e_mtL, e_w, e_w1, e_w2, e_wE, e_wZ, e_itK, e_itT, e_itL, e_itT2, e_itL2, e_lc, e_for, e_wipe0, e_wipe, e_okI, e_okR, e_gSb, List.getElem?_cons_zero, List.getElem?_cons_succ, List.set_cons_zero, List.set_cons_succ, at0]
    refine ⟨rfl, ?_⟩
    refine ⟨by unfold LstD; simp only [ownA], append_ref ownA (by rw [List.length_map]; omega) ?_⟩
    rw [putA]
    have ec : ps.map pathD ++ [pathD (ins P R (layF P R dn) a).2] = (ps ++ [(ins P R (layF P R dn) a).2]).map pathD := by rw [List.map_append]; rfl
    rw [ec]
    refine hN _ _ (.inl ⟨dn ++ [a], _, _, _, by rw [List.append_assoc]; exact e, ?_, by rw [List.length_append, List.length_append, lp]; rfl, by rw [layF_snoc]; rfl, rfl⟩)
    rw [layF_snoc, List.append_assoc]
    exact ep
  · rintro r st' ⟨dn, ps, x5, x6, e, ep, lp, rfl, rfl⟩
    rw [List.append_nil] at e
    subst e
    have ep2 : ps = pathsF P R dn := by
      rw [← ep]
      show ps = ps ++ []
      rw [List.append_nil]
    subst ep2
    try simp only [e_var, e_C, e_op, e_neg, e_isN, e_notN, e_and, e_or, e_not, e_test, e_tAnd, e_tOr, e_tNot, e_tYes, e_if, e_aNil, e_aCons, e_tup, e_lst, e_lstN, e_len0, e_len1, e_len2, e_len3, e_len4, e_len5, e_cb, e_on1, e_on2, e_onI, e_onB, e_onO, e_onO0, e_onOO, e_I0, e_I, e_add, e_addT, e_addS, e_addL, e_addLR, e_addRL, e_addRR, e_mul, e_mulL, e_mulT, e_rev, e_revT, e_ix, e_eqI, e_eqS, e_eqB, e_neI, e_neS, e_neB, e_ltI, e_chain, e_len, e_abs, e_2I, e_tuple1, e_tuple2, e_tuple3, e_listT, e_listN, e_allR, e_seqT, e_seqK, e_seqL, e_isi, e_isB, e_notB, e_truth, e_next, e_drop, e_ret, e_retN, e_ifS, e_set, e_asg, e_par, e_nm, e_gsN, e_gsC, e_gTpK, e_gTpL, e_sum, e_maxL, e_minL, e_maxDef, e_int, e_intB, e_aug, e_on3, e_par3, e_newK, e_getK, e_keyI, e_keyS, e_inK, e_ninK, e_putK, e_lenK, e_lstS, e_seqX, e_gTpT, e_oN, e_oS, e_sl, e_slT, e_slL, e_finT, e_finN, e_index, e_idxT, e_idxL, e_mIx, e_ixST, e_ixSL, e_mtL, e_w, e_w1, e_w2, e_wE, e_wZ, e_itK, e_itT, e_itL, e_itT2, e_itL2, e_lc, e_for, e_wipe0, e_wipe, e_okI, e_okR, e_gSb, List.getElem?_cons_zero, List.getElem?_cons_succ, List.set_cons_zero, List.set_cons_succ]
    refine .inr (.inr ⟨st.length, .tup [rowD (layF P R dn), .lst ((pathsF P R dn).map pathD)], Nat.le_refl _, by simp, .tup (.cons (.same (clos_ints _ _)) (.cons (.own (Nat.le_refl _) ownA (.same (clos_paths _ _))) .nil)), cloS_app rfl (fun i o h => .inl h), by rw [take_same rfl]; exact q⟩)
  · show pathsG P R (layF P R []) h = pathsF P R h
    unfold pathsF
    rw [lay_nil]
end DL
namespace DL
open PySem PySem.Spec PyProof.Rows L2 LamX PySem.W SL
theorem pos_eq {x : Int} {r : List Int} : pos (x :: r) x = 0 := by
  show ((if x = x then some 0 else (ixOf x r).map (· + 1)).getD 0) = 0
  rw [if_pos rfl]
  rfl
theorem pos_ne {c x : Int} {r : List Int} (h : c ≠ x) (hx : x ∈ r) : pos (c :: r) x = pos r x + 1 := by
  show ((if c = x then some 0 else (ixOf x r).map (· + 1)).getD 0) = _
  rw [if_neg h, (pos_at hx).2]
  rfl
theorem pos_filter (f : Int → Bool) {a b : Int} (fa : f a = true) (fb : f b = true) : ∀ l : List Int, a ∈ l → b ∈ l → (pos (l.filter f) a < pos (l.filter f) b ↔ pos l a < pos l b)
  | [], h, _ => by cases h
  | c :: r, ha, hb => by
    by_cases ca : c = a
    · subst ca
      rw [List.filter_cons_of_pos fa, pos_eq, pos_eq]
      by_cases cb : c = b
      · subst cb
        rw [pos_eq, pos_eq]
      · have b1 : b ∈ r := (List.mem_cons.mp hb).resolve_left (fun e => cb e.symm)
        rw [pos_ne cb b1, pos_ne cb (List.mem_filter.mpr ⟨b1, fb⟩)]
        omega
    · have a1 : a ∈ r := (List.mem_cons.mp ha).resolve_left (fun e => ca e.symm)
      by_cases cb : c = b
      · subst cb
        rw [List.filter_cons_of_pos fb, pos_eq, pos_eq]
        omega
      · have b1 : b ∈ r := (List.mem_cons.mp hb).resolve_left (fun e => cb e.symm)
        have ih := pos_filter f fa fb r a1 b1
        rw [pos_ne ca a1, pos_ne cb b1]
        by_cases fc : f c = true
        · rw [List.filter_cons_of_pos fc, pos_ne ca (List.mem_filter.mpr ⟨a1, fa⟩), pos_ne cb (List.mem_filter.mpr ⟨b1, fb⟩)]
          omega
        · rw [List.filter_cons_of_neg fc]
          omega
theorem getD_map75 {os : List (List Int)} {s : Nat} (h : s < os.length) : (os.map DL.ordT).getD s [] = DL.ordT (os.getD s []) := by
  rw [List.getD_eq_getElem?_getD, List.getElem?_map, List.getD_eq_getElem?_getD, List.getElem?_eq_getElem h]
  rfl
theorem alike_of {m n : Nat} {P P2 : List (List Int)} {os os2 : List (List Int)} {L : List Int} (S : Setg m n P (os.map DL.ordT)) (Ly : Lay m n L) (lo : os.length = n) (lo2 : os2.length = n) (oo : ∀ x ∈ os, Ord m x) (oo2 : ∀ x ∈ os2, Ord m x)
    (tk : ∀ a, a < m → (P2.getD a []).take (stay P L a) = (P.getD a []).take (stay P L a))
    (od : ∀ s, s < n → ∃ wi : List Int, (∀ k u : Nat, AskedS P L s k u → (k : Int) ∈ wi) ∧ (os2.getD s []).filter (fun x => decide (x ∈ wi)) = (os.getD s []).filter (fun x => decide (x ∈ wi))) :
    Alike n P (os.map DL.ordT) P2 (os2.map DL.ordT) L := by
  refine ⟨fun k j ⟨u, hu, le⟩ => ?_, fun s a b sn ⟨ua, ha, la⟩ ⟨ub, hb, lb⟩ => ?_⟩
  · obtain ⟨km, un⟩ := Ly.key hu
    have t := tk k km
    have pu : pos L (k : Int) = u := by unfold pos; rw [lay_ix Ly hu]; rfl
    have es : stay P L k = rk P k u + 1 := by
      unfold stay
      rw [if_pos (mem_lay.mpr ⟨u, hu⟩), pu]
    rw [es] at t
    have e := congrArg (fun l : List Int => l[j]?) t
    have lt : j < rk P k u + 1 := by omega
    simp only [List.getElem?_take_of_lt lt] at e
    unfold pr
    rw [List.getD_eq_getElem?_getD (l := P2.getD k []), e, ← List.getD_eq_getElem?_getD (l := P.getD k [])]
  · obtain ⟨am, un⟩ := Ly.key ha
    obtain ⟨bm, vn⟩ := Ly.key hb
    obtain ⟨wi, w1, w2⟩ := od s sn
    have aw := w1 a ua ⟨ha, la⟩
    have bw := w1 b ub ⟨hb, lb⟩
    have o1 : Ord m (os.getD s []) := oo _ (getD_memL (by rw [lo]; exact sn))
    have o2 : Ord m (os2.getD s []) := oo2 _ (getD_memL (by rw [lo2]; exact sn))
    have p1 := pos_filter (fun x => decide (x ∈ wi)) (decide_eq_true aw) (decide_eq_true bw) (os.getD s []) (o1.mem.mpr (by omega)) (o1.mem.mpr (by omega))
    have p2 := pos_filter (fun x => decide (x ∈ wi)) (decide_eq_true aw) (decide_eq_true bw) (os2.getD s []) (o2.mem.mpr (by omega)) (o2.mem.mpr (by omega))
    rw [w2] at p2
    unfold bt
    rw [getD_map75 (os := os2) (by omega), getD_map75 (os := os) (by omega), Bool.eq_iff_iff, decide_eq_true_eq, decide_eq_true_eq, o1.beats am, o2.beats am]
    constructor
    · rintro ⟨x, y⟩
      exact ⟨x, p1.mp (p2.mpr y)⟩
    · rintro ⟨x, y⟩
      exact ⟨x, p2.mp (p1.mpr y)⟩
theorem pathsG_sm {m n : Nat} {P : List (List Int)} {R : List (List (List Int))} (S : Setg m n P R) (m16 : m ≤ 16) (n16 : n ≤ 16) : ∀ (left dn : List Nat), Hist m n (dn ++ left) → ∀ x ∈ pathsG P R (layF P R dn) left, Sm 2 26000 (pathD x)
  | [], dn, H => fun x hx => by cases hx
  | a :: left, dn, H => fun x hx => by
    have G := hist_go S H
    have e : dn ++ a :: left = (dn ++ [a]) ++ left := by simp
    rcases List.mem_cons.mp hx with rfl | hx
    · obtain ⟨g1, k1, b1⟩ := insG_good S _ _ _ _ _ _ G (ins_eq S G)
      have l1 := insG_len _ _ _ _ (ins P R (layF P R dn) a).1 (ins P R (layF P R dn) a).2 (ins_eq S G)
      refine (sm_tup (k := 1) (c := 47) (m := 529) (fun d hd => ?_) ?_).mono (by decide) (by decide)
      · obtain ⟨y, hy, rfl⟩ := List.mem_map.mp hd
        have := b1 y hy
        exact sm_tup (k := 0) (c := 20) (m := 2) (fun d hd => by
          simp only [List.mem_cons, List.not_mem_nil, or_false] at hd
          rcases hd with rfl | rfl
          · exact sm_int (by omega) (by omega)
          · exact sm_int (by omega) (by omega)) (by simp)
      · rw [List.length_map]
        have nn2 : n * n ≤ 16 * 16 := Nat.mul_le_mul n16 n16
        have rl := S.rl
        simp only [rl] at l1
        have pl := pot_le S (sl := layF P R dn) G.g.lay.len
        omega
    · have es : (ins P R (layF P R dn) a).1 = layF P R (dn ++ [a]) := layF_snoc.symm
      rw [es] at hx
      exact pathsG_sm S m16 n16 left (dn ++ [a]) (by rw [← e]; exact H) x hx
end DL
namespace DL
open PySem PySem.Spec PyProof.Rows L2 LamX PySem.W SL
set_option maxHeartbeats 1000000 in
theorem sem_law10 (ds : List D) (st : DSt) (Q : DK) (h : g_law ds st Q) : F_law_v10 g_pot g_rightA { nx := fun _ st' => Rt st Q .non st', rt := Rt st Q } (startD 4 ds) st := by
  obtain ⟨ns, x, rfl, hx, few, q⟩ := h
  have st4 : startD 4 [x] = [some x, none, none, none] := rfl
  have big : (1000 : Nat) ≤ sizeLine := by decide
  simp only [F_law_v10, st4]
  try dsimp only
  rw [e_seq]
  try simp only [e_var, e_C, e_op, e_neg, e_isN, e_notN, e_and, e_or, e_not, e_test, e_tAnd, e_tOr, e_tNot, e_tYes, e_if, e_aNil, e_aCons, e_tup, e_lst, e_lstN, e_len0, e_len1, e_len2, e_len3, e_len4, e_len5, e_cb, e_on1, e_on2, e_onI, e_onB, e_onO, e_onO0, e_onOO, e_I0, e_I, e_add, e_addT, e_addS, e_addL, e_addLR, e_addRL, e_addRR, e_mul, e_mulL, e_mulT, e_rev, e_revT, e_ix, e_eqI, e_eqS, e_eqB, e_neI, e_neS, e_neB, e_ltI, e_chain, e_len, e_abs, e_2I, e_tuple1, e_tuple2, e_tuple3, e_listT, e_listN, e_allR, e_seqT, e_seqK, e_seqL, e_isi, e_isB, e_notB, e_truth, e_next, e_drop, e_ret, e_retN, e_ifS, e_set, e_asg, e_par, e_nm, e_gsN, e_gsC, e_gTpK, e_gTpL, e_sum, e_maxL, e_minL, e_maxDef, e_int, e_intB, e_aug, e_on3, e_par3, e_newK, e_getK, e_keyI, e_keyS, e_inK, e_ninK, e_putK, e_lenK, e_lstS, e_seqX, e_gTpT, e_oN, e_oS, e_sl, e_slT, e_slL, e_finT, e_finN, e_index, e_idxT, e_idxL, e_mIx, e_ixST, e_ixSL, e_mtL, e_w, e_w1, e_w2, e_wE, e_wZ, e_itK, e_itT, e_itL, e_itT2, e_itL2, e_lc, e_for, e_wipe0, e_wipe, e_okI, e_okR, e_gSb, List.getElem?_cons_zero, List.getElem?_cons_succ, List.set_cons_zero, List.set_cons_succ, hx.seq, List.length_map]
  generalize hj : (if (if (ns.length : Int) < 2 then (ns.length : Int) else 2) > 1 then (if (ns.length : Int) < 2 then (ns.length : Int) else 2) else 1) = j
  have j3 : 1 ≤ j ∧ j ≤ 2 := by
    rw [← hj]
    split <;> (try split) <;> omega
  refine ⟨⟨by omega, by omega⟩, ?_⟩
  refine for_inv (fun left r st' => ∃ (x1 x2 x3 : Option D), r = [some x, x1, x2, x3] ∧ ∀ d ∈ left, ∃ c : Nat, c ≤ 3 ∧ d = .int (c : Nat)) ?_ ?_ _ _ _ ⟨_, _, _, rfl, fun d hd => by obtain ⟨c, lc, rfl⟩ := rgD_mem hd; exact ⟨c, by omega, by rw [Int.zero_add]⟩⟩
  · rintro d left r st' N hN ⟨x1, x2, x3, rfl, hl⟩
    obtain ⟨c, lc, rfl⟩ := hl d List.mem_cons_self
    try simp only [e_var, e_C, e_op, e_neg, e_isN, e_notN, e_and, e_or, e_not, e_test, e_tAnd, e_tOr, e_tNot, e_tYes, e_if, e_aNil, e_aCons, e_tup, e_lst, e_lstN, e_len0, e_len1, e_len2, e_len3, e_len4, e_len5, e_cb, e_on1, e_on2, e_onI, e_onB, e_onO, e_onO0, e_onOO, e_I0, e_I, e_add, e_addT, e_addS, e_addL, e_addLR, e_addRL, e_addRR, e_mul, e_mulL, e_mulT, e_rev, e_revT, e_ix, e_eqI, e_eqS, e_eqB, e_neI, e_neS, e_neB, e_ltI, e_chain, e_len, e_abs, e_2I, e_tuple1, e_tuple2, e_tuple3, e_listT, e_listN, e_allR, e_seqT, e_seqK, e_seqL, e_isi, e_isB, e_notB, e_truth, e_next, e_drop, e_ret, e_retN, e_ifS, e_set, e_asg, e_par, e_nm, e_gsN, e_gsC, e_gTpK, e_gTpL, e_sum, e_maxL, e_minL, e_maxDef, e_int, e_intB, e_aug, e_on3, e_par3, e_newK, e_getK, e_keyI, e_keyS, e_inK, e_ninK, e_putK, e_lenK, e_lstS, e_seqX, e_gTpT, e_oN, e_oS, e_sl, e_slT, e_slL, e_finT, e_finN, e_index, e_idxT, e_idxL, e_mIx, e_ixST, e_ixSL, e_mtL, e_w, e_w1, e_w2, e_wE, e_wZ, e_itK, e_itT, e_itL, e_itT2, e_itL2, e_lc, e_for, e_wipe0, e_wipe, e_okI, e_okR, e_gSb, List.getElem?_cons_zero, List.getElem?_cons_succ, List.set_cons_zero, List.set_cons_succ]
    try dsimp only
    rw [e_seq]
    try simp only [e_var, e_C, e_op, e_neg, e_isN, e_notN, e_and, e_or, e_not, e_test, e_tAnd, e_tOr, e_tNot, e_tYes, e_if, e_aNil, e_aCons, e_tup, e_lst, e_lstN, e_len0, e_len1, e_len2, e_len3, e_len4, e_len5, e_cb, e_on1, e_on2, e_onI, e_onB, e_onO, e_onO0, e_onOO, e_I0, e_I, e_add, e_addT, e_addS, e_addL, e_addLR, e_addRL, e_addRR, e_mul, e_mulL, e_mulT, e_rev, e_revT, e_ix, e_eqI, e_eqS, e_eqB, e_neI, e_neS, e_neB, e_ltI, e_chain, e_len, e_abs, e_2I, e_tuple1, e_tuple2, e_tuple3, e_listT, e_listN, e_allR, e_seqT, e_seqK, e_seqL, e_isi, e_isB, e_notB, e_truth, e_next, e_drop, e_ret, e_retN, e_ifS, e_set, e_asg, e_par, e_nm, e_gsN, e_gsC, e_gTpK, e_gTpL, e_sum, e_maxL, e_minL, e_maxDef, e_int, e_intB, e_aug, e_on3, e_par3, e_newK, e_getK, e_keyI, e_keyS, e_inK, e_ninK, e_putK, e_lenK, e_lstS, e_seqX, e_gTpT, e_oN, e_oS, e_sl, e_slT, e_slL, e_finT, e_finN, e_index, e_idxT, e_idxL, e_mIx, e_ixST, e_ixSL, e_mtL, e_w, e_w1, e_w2, e_wE, e_wZ, e_itK, e_itT, e_itL, e_itT2, e_itL2, e_lc, e_for, e_wipe0, e_wipe, e_okI, e_okR, e_gSb, List.getElem?_cons_zero, List.getElem?_cons_succ, List.set_cons_zero, List.set_cons_succ]
    refine ⟨ns, x, c, rfl, hx, lc, fun o po => ?_⟩
    try simp only [e_var, e_C, e_op, e_neg, e_isN, e_notN, e_and, e_or, e_not, e_test, e_tAnd, e_tOr, e_tNot, e_tYes, e_if, e_aNil, e_aCons, e_tup, e_lst, e_lstN, e_len0, e_len1, e_len2, e_len3, e_len4, e_len5, e_cb, e_on1, e_on2, e_onI, e_onB, e_onO, e_onO0, e_onOO, e_I0, e_I, e_add, e_addT, e_addS, e_addL, e_addLR, e_addRL, e_addRR, e_mul, e_mulL, e_mulT, e_rev, e_revT, e_ix, e_eqI, e_eqS, e_eqB, e_neI, e_neS, e_neB, e_ltI, e_chain, e_len, e_abs, e_2I, e_tuple1, e_tuple2, e_tuple3, e_listT, e_listN, e_allR, e_seqT, e_seqK, e_seqL, e_isi, e_isB, e_notB, e_truth, e_next, e_drop, e_ret, e_retN, e_ifS, e_set, e_asg, e_par, e_nm, e_gsN, e_gsC, e_gTpK, e_gTpL, e_sum, e_maxL, e_minL, e_maxDef, e_int, e_intB, e_aug, e_on3, e_par3, e_newK, e_getK, e_keyI, e_keyS, e_inK, e_ninK, e_putK, e_lenK, e_lstS, e_seqX, e_gTpT, e_oN, e_oS, e_sl, e_slT, e_slL, e_finT, e_finN, e_index, e_idxT, e_idxL, e_mIx, e_ixST, e_ixSL, e_mtL, e_w, e_w1, e_w2, e_wE, e_wZ, e_itK, e_itT, e_itL, e_itT2, e_itL2, e_lc, e_for, e_wipe0, e_wipe, e_okI, e_okR, e_gSb, List.getElem?_cons_zero, List.getElem?_cons_succ, List.set_cons_zero, List.set_cons_succ]
    refine ⟨by decide, by rw [rgD_length]; decide, ?_⟩
    refine compL_inv 3 (fun c acc st2 => acc = List.replicate c (.bl true) ∧ ∃ o : O, st2 = st' ++ [o] ∧ PotO ((3 - c) * 5000) o) (fun c d acc st2 Nx lc w hNx => ?_) ?_ _ [] 0 _ (by rw [rgD_length]; rfl) ⟨rfl, o, rfl, po.less (by decide)⟩
    · obtain ⟨rfl, o, rfl, po⟩ := w
      try simp only [e_var, e_C, e_op, e_neg, e_isN, e_notN, e_and, e_or, e_not, e_test, e_tAnd, e_tOr, e_tNot, e_tYes, e_if, e_aNil, e_aCons, e_tup, e_lst, e_lstN, e_len0, e_len1, e_len2, e_len3, e_len4, e_len5, e_cb, e_on1, e_on2, e_onI, e_onB, e_onO, e_onO0, e_onOO, e_I0, e_I, e_add, e_addT, e_addS, e_addL, e_addLR, e_addRL, e_addRR, e_mul, e_mulL, e_mulT, e_rev, e_revT, e_ix, e_eqI, e_eqS, e_eqB, e_neI, e_neS, e_neB, e_ltI, e_chain, e_len, e_abs, e_2I, e_tuple1, e_tuple2, e_tuple3, e_listT, e_listN, e_allR, e_seqT, e_seqK, e_seqL, e_isi, e_isB, e_notB, e_truth, e_next, e_drop, e_ret, e_retN, e_ifS, e_set, e_asg, e_par, e_nm, e_gsN, e_gsC, e_gTpK, e_gTpL, e_sum, e_maxL, e_minL, e_maxDef, e_int, e_intB, e_aug, e_on3, e_par3, e_newK, e_getK, e_keyI, e_keyS, e_inK, e_ninK, e_putK, e_lenK, e_lstS, e_seqX, e_gTpT, e_oN, e_oS, e_sl, e_slT, e_slL, e_finT, e_finN, e_index, e_idxT, e_idxL, e_mIx, e_ixST, e_ixSL, e_mtL, e_w, e_w1, e_w2, e_wE, e_wZ, e_itK, e_itT, e_itL, e_itT2, e_itL2, e_lc, e_for, e_wipe0, e_wipe, e_okI, e_okR, e_gSb, List.getElem?_cons_zero, List.getElem?_cons_succ, List.set_cons_zero, List.set_cons_succ]
      refine ⟨st'.length, (3 - (c + 1)) * 5000, rfl, ⟨o, by simp, po.less (by omega)⟩, fun o2 po2 => hNx _ _ ⟨by rw [List.replicate_succ'], o2, by simp, po2⟩⟩
    · rintro acc st2 ⟨rfl, o, rfl, po⟩
      refine all_end0 (fun d hd => List.eq_of_mem_replicate hd) ?_
      try simp only [e_var, e_C, e_op, e_neg, e_isN, e_notN, e_and, e_or, e_not, e_test, e_tAnd, e_tOr, e_tNot, e_tYes, e_if, e_aNil, e_aCons, e_tup, e_lst, e_lstN, e_len0, e_len1, e_len2, e_len3, e_len4, e_len5, e_cb, e_on1, e_on2, e_onI, e_onB, e_onO, e_onO0, e_onOO, e_I0, e_I, e_add, e_addT, e_addS, e_addL, e_addLR, e_addRL, e_addRR, e_mul, e_mulL, e_mulT, e_rev, e_revT, e_ix, e_eqI, e_eqS, e_eqB, e_neI, e_neS, e_neB, e_ltI, e_chain, e_len, e_abs, e_2I, e_tuple1, e_tuple2, e_tuple3, e_listT, e_listN, e_allR, e_seqT, e_seqK, e_seqL, e_isi, e_isB, e_notB, e_truth, e_next, e_drop, e_ret, e_retN, e_ifS, e_set, e_asg, e_par, e_nm, e_gsN, e_gsC, e_gTpK, e_gTpL, e_sum, e_maxL, e_minL, e_maxDef, e_int, e_intB, e_aug, e_on3, e_par3, e_newK, e_getK, e_keyI, e_keyS, e_inK, e_ninK, e_putK, e_lenK, e_lstS, e_seqX, e_gTpT, e_oN, e_oS, e_sl, e_slT, e_slL, e_finT, e_finN, e_index, e_idxT, e_idxL, e_mIx, e_ixST, e_ixSL, e_mtL, e_w, e_w1, e_w2, e_wE, e_wZ, e_itK, e_itT, e_itL, e_itT2, e_itL2, e_lc, e_for, e_wipe0, e_wipe, e_okI, e_okR, e_gSb, List.getElem?_cons_zero, List.getElem?_cons_succ, List.set_cons_zero, List.set_cons_succ]
      refine hN _ _ (.inl ⟨_, _, _, rfl, fun d hd => hl d (List.mem_cons_of_mem _ hd)⟩)
  · rintro r st' ⟨x1, x2, x3, rfl, hl⟩
    try simp only [e_var, e_C, e_op, e_neg, e_isN, e_notN, e_and, e_or, e_not, e_test, e_tAnd, e_tOr, e_tNot, e_tYes, e_if, e_aNil, e_aCons, e_tup, e_lst, e_lstN, e_len0, e_len1, e_len2, e_len3, e_len4, e_len5, e_cb, e_on1, e_on2, e_onI, e_onB, e_onO, e_onO0, e_onOO, e_I0, e_I, e_add, e_addT, e_addS, e_addL, e_addLR, e_addRL, e_addRR, e_mul, e_mulL, e_mulT, e_rev, e_revT, e_ix, e_eqI, e_eqS, e_eqB, e_neI, e_neS, e_neB, e_ltI, e_chain, e_len, e_abs, e_2I, e_tuple1, e_tuple2, e_tuple3, e_listT, e_listN, e_allR, e_seqT, e_seqK, e_seqL, e_isi, e_isB, e_notB, e_truth, e_next, e_drop, e_ret, e_retN, e_ifS, e_set, e_asg, e_par, e_nm, e_gsN, e_gsC, e_gTpK, e_gTpL, e_sum, e_maxL, e_minL, e_maxDef, e_int, e_intB, e_aug, e_on3, e_par3, e_newK, e_getK, e_keyI, e_keyS, e_inK, e_ninK, e_putK, e_lenK, e_lstS, e_seqX, e_gTpT, e_oN, e_oS, e_sl, e_slT, e_slL, e_finT, e_finN, e_index, e_idxT, e_idxL, e_mIx, e_ixST, e_ixSL, e_mtL, e_w, e_w1, e_w2, e_wE, e_wZ, e_itK, e_itT, e_itL, e_itT2, e_itL2, e_lc, e_for, e_wipe0, e_wipe, e_okI, e_okR, e_gSb, List.getElem?_cons_zero, List.getElem?_cons_succ, List.set_cons_zero, List.set_cons_succ]
    exact .inl (q _)
theorem pathsG_len {P : List (List Int)} {R : List (List (List Int))} : ∀ (h : List Nat) (sl : List Int), (pathsG P R sl h).length = h.length
  | [], sl => rfl
  | a :: h, sl => by
    show (pathsG P R (ins P R sl a).1 h).length + 1 = h.length + 1
    rw [pathsG_len h]
set_option maxHeartbeats 8000000 in
theorem sem_right75 (ds : List D) (st : DSt) (Q : DK) (h : g_rightA ds st Q) : F__law_right_v27 g_layout g_best g_next g_look g_take g_pick g_shuf g_probesA g_ordersA g_ruleOf g_asked g_otherP g_otherO g_paths { nx := fun _ st' => Rt st Q .non st', rt := Rt st Q } (startD 17 ds) st := by
  obtain ⟨p, k, rfl, pot, q⟩ := h
  have lt := pot.lt
  have st17 : startD 17 [D.ref p] = [some (.ref p), none, none, none, none, none, none, none, none, none, none, none, none, none, none, none, none] := rfl
  have big : (1000 : Nat) ≤ sizeLine := by decide
  simp only [F__law_right_v27, st17]
  try dsimp only
  rw [e_seq]
  try simp only [e_var, e_C, e_op, e_neg, e_isN, e_notN, e_and, e_or, e_not, e_test, e_tAnd, e_tOr, e_tNot, e_tYes, e_if, e_aNil, e_aCons, e_tup, e_lst, e_lstN, e_len0, e_len1, e_len2, e_len3, e_len4, e_len5, e_cb, e_on1, e_on2, e_onI, e_onB, e_onO, e_onO0, e_onOO, e_I0, e_I, e_add, e_addT, e_addS, e_addL, e_addLR, e_addRL, e_addRR, e_mul, e_mulL, e_mulT, e_rev, e_revT, e_ix, e_eqI, e_eqS, e_eqB, e_neI, e_neS, e_neB, e_ltI, e_chain, e_len, e_abs, e_2I, e_tuple1, e_tuple2, e_tuple3, e_listT, e_listN, e_allR, e_seqT, e_seqK, e_seqL, e_isi, e_isB, e_notB, e_truth, e_next, e_drop, e_ret, e_retN, e_ifS, e_set, e_asg, e_par, e_nm, e_gsN, e_gsC, e_gTpK, e_gTpL, e_sum, e_maxL, e_minL, e_maxDef, e_int, e_intB, e_aug, e_on3, e_par3, e_newK, e_getK, e_keyI, e_keyS, e_inK, e_ninK, e_putK, e_lenK, e_lstS, e_seqX, e_gTpT, e_oN, e_oS, e_sl, e_slT, e_slL, e_finT, e_finN, e_index, e_idxT, e_idxL, e_mIx, e_ixST, e_ixSL, e_mtL, e_w, e_w1, e_w2, e_wE, e_wZ, e_itK, e_itT, e_itL, e_itT2, e_itL2, e_lc, e_for, e_wipe0, e_wipe, e_okI, e_okR, e_gSb, List.getElem?_cons_zero, List.getElem?_cons_succ, List.set_cons_zero, List.set_cons_succ]
  refine ⟨(by decide : 7 ≤ sizeLine), ?_⟩
  refine pick_ev (n := k + 4999) pot (fun z => by cases z) (by simp) fun d o1 hd po1 => ?_
  have hd' : ∃ m n : Nat, d = .tup [.int (m : Nat), .int (n : Nat)] ∧ 1 ≤ m ∧ m ≤ 16 ∧ 1 ≤ n ∧ n ≤ 16 := by
    simp only [List.mem_cons, List.not_mem_nil, or_false] at hd
    rcases hd with rfl | rfl | rfl | rfl | rfl | rfl | rfl
    · exact ⟨4, 4, rfl, by decide, by decide, by decide, by decide⟩
    · exact ⟨6, 6, rfl, by decide, by decide, by decide, by decide⟩
    · exact ⟨3, 3, rfl, by decide, by decide, by decide, by decide⟩
    · exact ⟨12, 12, rfl, by decide, by decide, by decide, by decide⟩
    · exact ⟨8, 6, rfl, by decide, by decide, by decide, by decide⟩
    · exact ⟨2, 4, rfl, by decide, by decide, by decide, by decide⟩
    · exact ⟨12, 13, rfl, by decide, by decide, by decide, by decide⟩
  obtain ⟨m, n, rfl, m1, m16, n1, n16⟩ := hd'
  clear hd
  try simp only [e_var, e_C, e_op, e_neg, e_isN, e_notN, e_and, e_or, e_not, e_test, e_tAnd, e_tOr, e_tNot, e_tYes, e_if, e_aNil, e_aCons, e_tup, e_lst, e_lstN, e_len0, e_len1, e_len2, e_len3, e_len4, e_len5, e_cb, e_on1, e_on2, e_onI, e_onB, e_onO, e_onO0, e_onOO, e_I0, e_I, e_add, e_addT, e_addS, e_addL, e_addLR, e_addRL, e_addRR, e_mul, e_mulL, e_mulT, e_rev, e_revT, e_ix, e_eqI, e_eqS, e_eqB, e_neI, e_neS, e_neB, e_ltI, e_chain, e_len, e_abs, e_2I, e_tuple1, e_tuple2, e_tuple3, e_listT, e_listN, e_allR, e_seqT, e_seqK, e_seqL, e_isi, e_isB, e_notB, e_truth, e_next, e_drop, e_ret, e_retN, e_ifS, e_set, e_asg, e_par, e_nm, e_gsN, e_gsC, e_gTpK, e_gTpL, e_sum, e_maxL, e_minL, e_maxDef, e_int, e_intB, e_aug, e_on3, e_par3, e_newK, e_getK, e_keyI, e_keyS, e_inK, e_ninK, e_putK, e_lenK, e_lstS, e_seqX, e_gTpT, e_oN, e_oS, e_sl, e_slT, e_slL, e_finT, e_finN, e_index, e_idxT, e_idxL, e_mIx, e_ixST, e_ixSL, e_mtL, e_w, e_w1, e_w2, e_wE, e_wZ, e_itK, e_itT, e_itL, e_itT2, e_itL2, e_lc, e_for, e_wipe0, e_wipe, e_okI, e_okR, e_gSb, List.getElem?_cons_zero, List.getElem?_cons_succ, List.set_cons_zero, List.set_cons_succ]
  refine ⟨rfl, ?_⟩
  try dsimp only
  rw [e_seq]
  try simp only [e_var, e_C, e_op, e_neg, e_isN, e_notN, e_and, e_or, e_not, e_test, e_tAnd, e_tOr, e_tNot, e_tYes, e_if, e_aNil, e_aCons, e_tup, e_lst, e_lstN, e_len0, e_len1, e_len2, e_len3, e_len4, e_len5, e_cb, e_on1, e_on2, e_onI, e_onB, e_onO, e_onO0, e_onOO, e_I0, e_I, e_add, e_addT, e_addS, e_addL, e_addLR, e_addRL, e_addRR, e_mul, e_mulL, e_mulT, e_rev, e_revT, e_ix, e_eqI, e_eqS, e_eqB, e_neI, e_neS, e_neB, e_ltI, e_chain, e_len, e_abs, e_2I, e_tuple1, e_tuple2, e_tuple3, e_listT, e_listN, e_allR, e_seqT, e_seqK, e_seqL, e_isi, e_isB, e_notB, e_truth, e_next, e_drop, e_ret, e_retN, e_ifS, e_set, e_asg, e_par, e_nm, e_gsN, e_gsC, e_gTpK, e_gTpL, e_sum, e_maxL, e_minL, e_maxDef, e_int, e_intB, e_aug, e_on3, e_par3, e_newK, e_getK, e_keyI, e_keyS, e_inK, e_ninK, e_putK, e_lenK, e_lstS, e_seqX, e_gTpT, e_oN, e_oS, e_sl, e_slT, e_slL, e_finT, e_finN, e_index, e_idxT, e_idxL, e_mIx, e_ixST, e_ixSL, e_mtL, e_w, e_w1, e_w2, e_wE, e_wZ, e_itK, e_itT, e_itL, e_itT2, e_itL2, e_lc, e_for, e_wipe0, e_wipe, e_okI, e_okR, e_gSb, List.getElem?_cons_zero, List.getElem?_cons_succ, List.set_cons_zero, List.set_cons_succ]
  refine ⟨p, k + 4599, m, n, rfl, Pot.set lt (po1.less (by omega)), n1, n16, m16, fun P o2 lP oP po2 => ?_⟩
  rw [List.set_set]
  try dsimp only
  rw [e_seq]
  try simp only [e_var, e_C, e_op, e_neg, e_isN, e_notN, e_and, e_or, e_not, e_test, e_tAnd, e_tOr, e_tNot, e_tYes, e_if, e_aNil, e_aCons, e_tup, e_lst, e_lstN, e_len0, e_len1, e_len2, e_len3, e_len4, e_len5, e_cb, e_on1, e_on2, e_onI, e_onB, e_onO, e_onO0, e_onOO, e_I0, e_I, e_add, e_addT, e_addS, e_addL, e_addLR, e_addRL, e_addRR, e_mul, e_mulL, e_mulT, e_rev, e_revT, e_ix, e_eqI, e_eqS, e_eqB, e_neI, e_neS, e_neB, e_ltI, e_chain, e_len, e_abs, e_2I, e_tuple1, e_tuple2, e_tuple3, e_listT, e_listN, e_allR, e_seqT, e_seqK, e_seqL, e_isi, e_isB, e_notB, e_truth, e_next, e_drop, e_ret, e_retN, e_ifS, e_set, e_asg, e_par, e_nm, e_gsN, e_gsC, e_gTpK, e_gTpL, e_sum, e_maxL, e_minL, e_maxDef, e_int, e_intB, e_aug, e_on3, e_par3, e_newK, e_getK, e_keyI, e_keyS, e_inK, e_ninK, e_putK, e_lenK, e_lstS, e_seqX, e_gTpT, e_oN, e_oS, e_sl, e_slT, e_slL, e_finT, e_finN, e_index, e_idxT, e_idxL, e_mIx, e_ixST, e_ixSL, e_mtL, e_w, e_w1, e_w2, e_wE, e_wZ, e_itK, e_itT, e_itL, e_itT2, e_itL2, e_lc, e_for, e_wipe0, e_wipe, e_okI, e_okR, e_gSb, List.getElem?_cons_zero, List.getElem?_cons_succ, List.set_cons_zero, List.set_cons_succ]
  refine ⟨p, k + 4199, m, n, P, rfl, Pot.set lt (po2.less (by omega)), n1, n16, lP, m1, m16, oP, fun os o3 lo oo po3 => ?_⟩
  rw [List.set_set]
  try dsimp only
  rw [e_seq]
  try simp only [e_var, e_C, e_op, e_neg, e_isN, e_notN, e_and, e_or, e_not, e_test, e_tAnd, e_tOr, e_tNot, e_tYes, e_if, e_aNil, e_aCons, e_tup, e_lst, e_lstN, e_len0, e_len1, e_len2, e_len3, e_len4, e_len5, e_cb, e_on1, e_on2, e_onI, e_onB, e_onO, e_onO0, e_onOO, e_I0, e_I, e_add, e_addT, e_addS, e_addL, e_addLR, e_addRL, e_addRR, e_mul, e_mulL, e_mulT, e_rev, e_revT, e_ix, e_eqI, e_eqS, e_eqB, e_neI, e_neS, e_neB, e_ltI, e_chain, e_len, e_abs, e_2I, e_tuple1, e_tuple2, e_tuple3, e_listT, e_listN, e_allR, e_seqT, e_seqK, e_seqL, e_isi, e_isB, e_notB, e_truth, e_next, e_drop, e_ret, e_retN, e_ifS, e_set, e_asg, e_par, e_nm, e_gsN, e_gsC, e_gTpK, e_gTpL, e_sum, e_maxL, e_minL, e_maxDef, e_int, e_intB, e_aug, e_on3, e_par3, e_newK, e_getK, e_keyI, e_keyS, e_inK, e_ninK, e_putK, e_lenK, e_lstS, e_seqX, e_gTpT, e_oN, e_oS, e_sl, e_slT, e_slL, e_finT, e_finN, e_index, e_idxT, e_idxL, e_mIx, e_ixST, e_ixSL, e_mtL, e_w, e_w1, e_w2, e_wE, e_wZ, e_itK, e_itT, e_itL, e_itT2, e_itL2, e_lc, e_for, e_wipe0, e_wipe, e_okI, e_okR, e_gSb, List.getElem?_cons_zero, List.getElem?_cons_succ, List.set_cons_zero, List.set_cons_succ]
  refine ⟨m, os, rfl, oo, by omega, by omega, ?_⟩
  have S : Setg m n P (os.map DL.ordT) := ⟨lP, oP, by rw [List.length_map]; exact lo, fun t ht => by obtain ⟨y, hy, rfl⟩ := List.mem_map.mp ht; exact (oo y hy).tb⟩
  have all : ∀ t ∈ os.map DL.ordT, noRing t = true := fun t ht => by obtain ⟨y, hy, rfl⟩ := List.mem_map.mp ht; exact ordT_noRing (oo y hy)
  have T := S.trn all
  try simp only [e_var, e_C, e_op, e_neg, e_isN, e_notN, e_and, e_or, e_not, e_test, e_tAnd, e_tOr, e_tNot, e_tYes, e_if, e_aNil, e_aCons, e_tup, e_lst, e_lstN, e_len0, e_len1, e_len2, e_len3, e_len4, e_len5, e_cb, e_on1, e_on2, e_onI, e_onB, e_onO, e_onO0, e_onOO, e_I0, e_I, e_add, e_addT, e_addS, e_addL, e_addLR, e_addRL, e_addRR, e_mul, e_mulL, e_mulT, e_rev, e_revT, e_ix, e_eqI, e_eqS, e_eqB, e_neI, e_neS, e_neB, e_ltI, e_chain, e_len, e_abs, e_2I, e_tuple1, e_tuple2, e_tuple3, e_listT, e_listN, e_allR, e_seqT, e_seqK, e_seqL, e_isi, e_isB, e_notB, e_truth, e_next, e_drop, e_ret, e_retN, e_ifS, e_set, e_asg, e_par, e_nm, e_gsN, e_gsC, e_gTpK, e_gTpL, e_sum, e_maxL, e_minL, e_maxDef, e_int, e_intB, e_aug, e_on3, e_par3, e_newK, e_getK, e_keyI, e_keyS, e_inK, e_ninK, e_putK, e_lenK, e_lstS, e_seqX, e_gTpT, e_oN, e_oS, e_sl, e_slT, e_slL, e_finT, e_finN, e_index, e_idxT, e_idxL, e_mIx, e_ixST, e_ixSL, e_mtL, e_w, e_w1, e_w2, e_wE, e_wZ, e_itK, e_itT, e_itL, e_itT2, e_itL2, e_lc, e_for, e_wipe0, e_wipe, e_okI, e_okR, e_gSb, List.getElem?_cons_zero, List.getElem?_cons_succ, List.set_cons_zero, List.set_cons_succ]
  unfold dLRg1
  try simp only [e_var, e_C, e_op, e_neg, e_isN, e_notN, e_and, e_or, e_not, e_test, e_tAnd, e_tOr, e_tNot, e_tYes, e_if, e_aNil, e_aCons, e_tup, e_lst, e_lstN, e_len0, e_len1, e_len2, e_len3, e_len4, e_len5, e_cb, e_on1, e_on2, e_onI, e_onB, e_onO, e_onO0, e_onOO, e_I0, e_I, e_add, e_addT, e_addS, e_addL, e_addLR, e_addRL, e_addRR, e_mul, e_mulL, e_mulT, e_rev, e_revT, e_ix, e_eqI, e_eqS, e_eqB, e_neI, e_neS, e_neB, e_ltI, e_chain, e_len, e_abs, e_2I, e_tuple1, e_tuple2, e_tuple3, e_listT, e_listN, e_allR, e_seqT, e_seqK, e_seqL, e_isi, e_isB, e_notB, e_truth, e_next, e_drop, e_ret, e_retN, e_ifS, e_set, e_asg, e_par, e_nm, e_gsN, e_gsC, e_gTpK, e_gTpL, e_sum, e_maxL, e_minL, e_maxDef, e_int, e_intB, e_aug, e_on3, e_par3, e_newK, e_getK, e_keyI, e_keyS, e_inK, e_ninK, e_putK, e_lenK, e_lstS, e_seqX, e_gTpT, e_oN, e_oS, e_sl, e_slT, e_slL, e_finT, e_finN, e_index, e_idxT, e_idxL, e_mIx, e_ixST, e_ixSL, e_mtL, e_w, e_w1, e_w2, e_wE, e_wZ, e_itK, e_itT, e_itL, e_itT2, e_itL2, e_lc, e_for, e_wipe0, e_wipe, e_okI, e_okR, e_gSb, List.getElem?_cons_zero, List.getElem?_cons_succ, List.set_cons_zero, List.set_cons_succ]
  refine ⟨RgOk.of_le (by decide) (by omega) (by decide) (by omega), shuf_rg (k := k + 4100) (by omega) (Pot.set lt (po3.less (by omega))) fun ord o4 oo4 po4 => ?_⟩
  rw [List.set_set]
  obtain ⟨hs, rfl, nd, lm⟩ := ord_nat oo4
  have hl : hs.length = m := by
    have := oo4.len
    rw [List.length_map] at this
    omega
  try simp only [e_var, e_C, e_op, e_neg, e_isN, e_notN, e_and, e_or, e_not, e_test, e_tAnd, e_tOr, e_tNot, e_tYes, e_if, e_aNil, e_aCons, e_tup, e_lst, e_lstN, e_len0, e_len1, e_len2, e_len3, e_len4, e_len5, e_cb, e_on1, e_on2, e_onI, e_onB, e_onO, e_onO0, e_onOO, e_I0, e_I, e_add, e_addT, e_addS, e_addL, e_addLR, e_addRL, e_addRR, e_mul, e_mulL, e_mulT, e_rev, e_revT, e_ix, e_eqI, e_eqS, e_eqB, e_neI, e_neS, e_neB, e_ltI, e_chain, e_len, e_abs, e_2I, e_tuple1, e_tuple2, e_tuple3, e_listT, e_listN, e_allR, e_seqT, e_seqK, e_seqL, e_isi, e_isB, e_notB, e_truth, e_next, e_drop, e_ret, e_retN, e_ifS, e_set, e_asg, e_par, e_nm, e_gsN, e_gsC, e_gTpK, e_gTpL, e_sum, e_maxL, e_minL, e_maxDef, e_int, e_intB, e_aug, e_on3, e_par3, e_newK, e_getK, e_keyI, e_keyS, e_inK, e_ninK, e_putK, e_lenK, e_lstS, e_seqX, e_gTpT, e_oN, e_oS, e_sl, e_slT, e_slL, e_finT, e_finN, e_index, e_idxT, e_idxL, e_mIx, e_ixST, e_ixSL, e_mtL, e_w, e_w1, e_w2, e_wE, e_wZ, e_itK, e_itT, e_itL, e_itT2, e_itL2, e_lc, e_for, e_wipe0, e_wipe, e_okI, e_okR, e_gSb, List.getElem?_cons_zero, List.getElem?_cons_succ, List.set_cons_zero, List.set_cons_succ]
  have emn : (if (n : Int) < (m : Int) then (n : Int) else (m : Int)) = ((min n m : Nat) : Int) := by split <;> omega
  rw [emn]
  refine take_ev (n := k + 4099) (Pot.set lt po4) (by omega) (by omega) fun u o5 lu po5 => ?_
  rw [List.set_set]
  have er : rowD (hs.map fun k : Nat => (k : Int)) = .tup (nL hs) := by unfold rowD nL; rw [List.map_map]; rfl
  have e1u : (1 : Int) + (u : Nat) = ((u + 1 : Nat) : Int) := by omega
  rw [er]
  try simp only [e_var, e_C, e_op, e_neg, e_isN, e_notN, e_and, e_or, e_not, e_test, e_tAnd, e_tOr, e_tNot, e_tYes, e_if, e_aNil, e_aCons, e_tup, e_lst, e_lstN, e_len0, e_len1, e_len2, e_len3, e_len4, e_len5, e_cb, e_on1, e_on2, e_onI, e_onB, e_onO, e_onO0, e_onOO, e_I0, e_I, e_add, e_addT, e_addS, e_addL, e_addLR, e_addRL, e_addRR, e_mul, e_mulL, e_mulT, e_rev, e_revT, e_ix, e_eqI, e_eqS, e_eqB, e_neI, e_neS, e_neB, e_ltI, e_chain, e_len, e_abs, e_2I, e_tuple1, e_tuple2, e_tuple3, e_listT, e_listN, e_allR, e_seqT, e_seqK, e_seqL, e_isi, e_isB, e_notB, e_truth, e_next, e_drop, e_ret, e_retN, e_ifS, e_set, e_asg, e_par, e_nm, e_gsN, e_gsC, e_gTpK, e_gTpL, e_sum, e_maxL, e_minL, e_maxDef, e_int, e_intB, e_aug, e_on3, e_par3, e_newK, e_getK, e_keyI, e_keyS, e_inK, e_ninK, e_putK, e_lenK, e_lstS, e_seqX, e_gTpT, e_oN, e_oS, e_sl, e_slT, e_slL, e_finT, e_finN, e_index, e_idxT, e_idxL, e_mIx, e_ixST, e_ixSL, e_mtL, e_w, e_w1, e_w2, e_wE, e_wZ, e_itK, e_itT, e_itL, e_itT2, e_itL2, e_lc, e_for, e_wipe0, e_wipe, e_okI, e_okR, e_gSb, List.getElem?_cons_zero, List.getElem?_cons_succ, List.set_cons_zero, List.set_cons_succ]
  rw [e1u]
  try simp only [e_var, e_C, e_op, e_neg, e_isN, e_notN, e_and, e_or, e_not, e_test, e_tAnd, e_tOr, e_tNot, e_tYes, e_if, e_aNil, e_aCons, e_tup, e_lst, e_lstN, e_len0, e_len1, e_len2, e_len3, e_len4, e_len5, e_cb, e_on1, e_on2, e_onI, e_onB, e_onO, e_onO0, e_onOO, e_I0, e_I, e_add, e_addT, e_addS, e_addL, e_addLR, e_addRL, e_addRR, e_mul, e_mulL, e_mulT, e_rev, e_revT, e_ix, e_eqI, e_eqS, e_eqB, e_neI, e_neS, e_neB, e_ltI, e_chain, e_len, e_abs, e_2I, e_tuple1, e_tuple2, e_tuple3, e_listT, e_listN, e_allR, e_seqT, e_seqK, e_seqL, e_isi, e_isB, e_notB, e_truth, e_next, e_drop, e_ret, e_retN, e_ifS, e_set, e_asg, e_par, e_nm, e_gsN, e_gsC, e_gTpK, e_gTpL, e_sum, e_maxL, e_minL, e_maxDef, e_int, e_intB, e_aug, e_on3, e_par3, e_newK, e_getK, e_keyI, e_keyS, e_inK, e_ninK, e_putK, e_lenK, e_lstS, e_seqX, e_gTpT, e_oN, e_oS, e_sl, e_slT, e_slL, e_finT, e_finN, e_index, e_idxT, e_idxL, e_mIx, e_ixST, e_ixSL, e_mtL, e_w, e_w1, e_w2, e_wE, e_wZ, e_itK, e_itT, e_itL, e_itT2, e_itL2, e_lc, e_for, e_wipe0, e_wipe, e_okI, e_okR, e_gSb, List.getElem?_cons_zero, List.getElem?_cons_succ, List.set_cons_zero, List.set_cons_succ]
  rw [cutH]
  have en : (nL hs).take (u + 1) = nL (hs.take (u + 1)) := by unfold nL; rw [List.map_take]
  rw [en]
  have H : Hist m n (hs.take (u + 1)) := ⟨nd.sublist (List.take_sublist _ _), fun k hk => lm k ((List.take_sublist _ _).subset hk), by rw [List.length_take]; omega⟩
  generalize hs.take (u + 1) = h at H
  have n0 : 0 < n := by omega
  try dsimp only
  rw [e_seq]
  try simp only [e_var, e_C, e_op, e_neg, e_isN, e_notN, e_and, e_or, e_not, e_test, e_tAnd, e_tOr, e_tNot, e_tYes, e_if, e_aNil, e_aCons, e_tup, e_lst, e_lstN, e_len0, e_len1, e_len2, e_len3, e_len4, e_len5, e_cb, e_on1, e_on2, e_onI, e_onB, e_onO, e_onO0, e_onOO, e_I0, e_I, e_add, e_addT, e_addS, e_addL, e_addLR, e_addRL, e_addRR, e_mul, e_mulL, e_mulT, e_rev, e_revT, e_ix, e_eqI, e_eqS, e_eqB, e_neI, e_neS, e_neB, e_ltI, e_chain, e_len, e_abs, e_2I, e_tuple1, e_tuple2, e_tuple3, e_listT, e_listN, e_allR, e_seqT, e_seqK, e_seqL, e_isi, e_isB, e_notB, e_truth, e_next, e_drop, e_ret, e_retN, e_ifS, e_set, e_asg, e_par, e_nm, e_gsN, e_gsC, e_gTpK, e_gTpL, e_sum, e_maxL, e_minL, e_maxDef, e_int, e_intB, e_aug, e_on3, e_par3, e_newK, e_getK, e_keyI, e_keyS, e_inK, e_ninK, e_putK, e_lenK, e_lstS, e_seqX, e_gTpT, e_oN, e_oS, e_sl, e_slT, e_slL, e_finT, e_finN, e_index, e_idxT, e_idxL, e_mIx, e_ixST, e_ixSL, e_mtL, e_w, e_w1, e_w2, e_wE, e_wZ, e_itK, e_itT, e_itL, e_itT2, e_itL2, e_lc, e_for, e_wipe0, e_wipe, e_okI, e_okR, e_gSb, List.getElem?_cons_zero, List.getElem?_cons_succ, List.set_cons_zero, List.set_cons_succ]
  refine ⟨m, n, P, os.map DL.ordT, h, rfl, S, by omega, by omega, n0, H, ?_⟩
  obtain ⟨G, K⟩ := layF_good S H
  have Ly := G.lay
  try dsimp only
  rw [e_seq]
  try simp only [e_var, e_C, e_op, e_neg, e_isN, e_notN, e_and, e_or, e_not, e_test, e_tAnd, e_tOr, e_tNot, e_tYes, e_if, e_aNil, e_aCons, e_tup, e_lst, e_lstN, e_len0, e_len1, e_len2, e_len3, e_len4, e_len5, e_cb, e_on1, e_on2, e_onI, e_onB, e_onO, e_onO0, e_onOO, e_I0, e_I, e_add, e_addT, e_addS, e_addL, e_addLR, e_addRL, e_addRR, e_mul, e_mulL, e_mulT, e_rev, e_revT, e_ix, e_eqI, e_eqS, e_eqB, e_neI, e_neS, e_neB, e_ltI, e_chain, e_len, e_abs, e_2I, e_tuple1, e_tuple2, e_tuple3, e_listT, e_listN, e_allR, e_seqT, e_seqK, e_seqL, e_isi, e_isB, e_notB, e_truth, e_next, e_drop, e_ret, e_retN, e_ifS, e_set, e_asg, e_par, e_nm, e_gsN, e_gsC, e_gTpK, e_gTpL, e_sum, e_maxL, e_minL, e_maxDef, e_int, e_intB, e_aug, e_on3, e_par3, e_newK, e_getK, e_keyI, e_keyS, e_inK, e_ninK, e_putK, e_lenK, e_lstS, e_seqX, e_gTpT, e_oN, e_oS, e_sl, e_slT, e_slL, e_finT, e_finN, e_index, e_idxT, e_idxL, e_mIx, e_ixST, e_ixSL, e_mtL, e_w, e_w1, e_w2, e_wE, e_wZ, e_itK, e_itT, e_itL, e_itT2, e_itL2, e_lc, e_for, e_wipe0, e_wipe, e_okI, e_okR, e_gSb, List.getElem?_cons_zero, List.getElem?_cons_succ, List.set_cons_zero, List.set_cons_succ, List.length_set]
  try dsimp only
  rw [e_seq]
  try simp only [e_var, e_C, e_op, e_neg, e_isN, e_notN, e_and, e_or, e_not, e_test, e_tAnd, e_tOr, e_tNot, e_tYes, e_if, e_aNil, e_aCons, e_tup, e_lst, e_lstN, e_len0, e_len1, e_len2, e_len3, e_len4, e_len5, e_cb, e_on1, e_on2, e_onI, e_onB, e_onO, e_onO0, e_onOO, e_I0, e_I, e_add, e_addT, e_addS, e_addL, e_addLR, e_addRL, e_addRR, e_mul, e_mulL, e_mulT, e_rev, e_revT, e_ix, e_eqI, e_eqS, e_eqB, e_neI, e_neS, e_neB, e_ltI, e_chain, e_len, e_abs, e_2I, e_tuple1, e_tuple2, e_tuple3, e_listT, e_listN, e_allR, e_seqT, e_seqK, e_seqL, e_isi, e_isB, e_notB, e_truth, e_next, e_drop, e_ret, e_retN, e_ifS, e_set, e_asg, e_par, e_nm, e_gsN, e_gsC, e_gTpK, e_gTpL, e_sum, e_maxL, e_minL, e_maxDef, e_int, e_intB, e_aug, e_on3, e_par3, e_newK, e_getK, e_keyI, e_keyS, e_inK, e_ninK, e_putK, e_lenK, e_lstS, e_seqX, e_gTpT, e_oN, e_oS, e_sl, e_slT, e_slL, e_finT, e_finN, e_index, e_idxT, e_idxL, e_mIx, e_ixST, e_ixSL, e_mtL, e_w, e_w1, e_w2, e_wE, e_wZ, e_itK, e_itT, e_itL, e_itT2, e_itL2, e_lc, e_for, e_wipe0, e_wipe, e_okI, e_okR, e_gSb, List.getElem?_cons_zero, List.getElem?_cons_succ, List.set_cons_zero, List.set_cons_succ]
  refine for_inv (fun left r st' => ∃ (i : Nat) (os2 : List (List Int)) (o : O) (x9 x10 : Option D), left = (enumD (os.map rowD)).drop i ∧ r = [some (.ref p), some (.int (m : Nat)), some (.int (n : Nat)), some (rowsD P), some (.tup (os.map rowD)), some (tabsD (os.map DL.ordT)), some (.tup (nL h)), some (.tup ((layF P (os.map DL.ordT) h).map D.int)), some (.ref st.length), x9, x10, none, none, none, none, none, none] ∧ st' = st.set p o ++ [.lst (os2.map rowD)] ∧ os2.length = i ∧ i ≤ n ∧ (∀ x ∈ os2, Ord m x) ∧ (∀ s, s < i → ∃ wi : List Int, (∀ k u : Nat, AskedS P (layF P (os.map DL.ordT) h) s k u → (k : Int) ∈ wi) ∧ (os2.getD s []).filter (fun x => decide (x ∈ wi)) = (os.getD s []).filter (fun x => decide (x ∈ wi))) ∧ PotO (k + 1000 + (n - i) * 20) o) ?_ ?_ _ _ _ ⟨0, [], o5, _, _, rfl, rfl, rfl, rfl, Nat.zero_le _, fun x hx => (by cases hx), fun s hs => absurd hs (Nat.not_lt_zero _), po5.less (by omega)⟩
  · rintro d left r st' N hN ⟨i, os2, o, x9, x10, e, rfl, rfl, l2, le, oo2, od, po⟩
    obtain ⟨x, ex, rfl, rfl⟩ := enum_dropG e
    rw [List.getElem?_map] at ex
    obtain ⟨y, ey, rfl⟩ := Option.map_eq_some_iff.mp ex
    have il : i < n := by rw [← lo]; exact (List.getElem?_eq_some_iff.mp ey).1
    have eg : os.getD i [] = y := by rw [List.getD_eq_getElem?_getD, ey]; rfl
    have oy : Ord m y := oo _ (List.mem_of_getElem? ey)
    have arith : k + 1000 + (n - (i + 1)) * 20 + 20 ≤ k + 1000 + (n - i) * 20 := by omega
    try simp only [e_var, e_C, e_op, e_neg, e_isN, e_notN, e_and, e_or, e_not, e_test, e_tAnd, e_tOr, e_tNot, e_tYes, e_if, e_aNil, e_aCons, e_tup, e_lst, e_lstN, e_len0, e_len1, e_len2, e_len3, e_len4, e_len5, e_cb, e_on1, e_on2, e_onI, e_onB, e_onO, e_onO0, e_onOO, e_I0, e_I, e_add, e_addT, e_addS, e_addL, e_addLR, e_addRL, e_addRR, e_mul, e_mulL, e_mulT, e_rev, e_revT, e_ix, e_eqI, e_eqS, e_eqB, e_neI, e_neS, e_neB, e_ltI, e_chain, e_len, e_abs, e_2I, e_tuple1, e_tuple2, e_tuple3, e_listT, e_listN, e_allR, e_seqT, e_seqK, e_seqL, e_isi, e_isB, e_notB, e_truth, e_next, e_drop, e_ret, e_retN, e_ifS, e_set, e_asg, e_par, e_nm, e_gsN, e_gsC, e_gTpK, e_gTpL, e_sum, e_maxL, e_minL, e_maxDef, e_int, e_intB, e_aug, e_on3, e_par3, e_newK, e_getK, e_keyI, e_keyS, e_inK, e_ninK, e_putK, e_lenK, e_lstS, e_seqX, e_gTpT, e_oN, e_oS, e_sl, e_slT, e_slL, e_finT, e_finN, e_index, e_idxT, e_idxL, e_mIx, e_ixST, e_ixSL, e_mtL, e_w, e_w1, e_w2, e_wE, e_wZ, e_itK, e_itT, e_itL, e_itT2, e_itL2, e_lc, e_for, e_wipe0, e_wipe, e_okI, e_okR, e_gSb, List.getElem?_cons_zero, List.getElem?_cons_succ, List.set_cons_zero, List.set_cons_succ]
    refine ⟨rfl, ?_⟩
    try simp only [e_var, e_C, e_op, e_neg, e_isN, e_notN, e_and, e_or, e_not, e_test, e_tAnd, e_tOr, e_tNot, e_tYes, e_if, e_aNil, e_aCons, e_tup, e_lst, e_lstN, e_len0, e_len1, e_len2, e_len3, e_len4, e_len5, e_cb, e_on1, e_on2, e_onI, e_onB, e_onO, e_onO0, e_onOO, e_I0, e_I, e_add, e_addT, e_addS, e_addL, e_addLR, e_addRL, e_addRR, e_mul, e_mulL, e_mulT, e_rev, e_revT, e_ix, e_eqI, e_eqS, e_eqB, e_neI, e_neS, e_neB, e_ltI, e_chain, e_len, e_abs, e_2I, e_tuple1, e_tuple2, e_tuple3, e_listT, e_listN, e_allR, e_seqT, e_seqK, e_seqL, e_isi, e_isB, e_notB, e_truth, e_next, e_drop, e_ret, e_retN, e_ifS, e_set, e_asg, e_par, e_nm, e_gsN, e_gsC, e_gTpK, e_gTpL, e_sum, e_maxL, e_minL, e_maxDef, e_int, e_intB, e_aug, e_on3, e_par3, e_newK, e_getK, e_keyI, e_keyS, e_inK, e_ninK, e_putK, e_lenK, e_lstS, e_seqX, e_gTpT, e_oN, e_oS, e_sl, e_slT, e_slL, e_finT, e_finN, e_index, e_idxT, e_idxL, e_mIx, e_ixST, e_ixSL, e_mtL, e_w, e_w1, e_w2, e_wE, e_wZ, e_itK, e_itT, e_itL, e_itT2, e_itL2, e_lc, e_for, e_wipe0, e_wipe, e_okI, e_okR, e_gSb, List.getElem?_cons_zero, List.getElem?_cons_succ, List.set_cons_zero, List.set_cons_succ]
    refine ⟨by unfold LstD; simp only [own0], ?_⟩
    refine ⟨m, n, P, os.map DL.ordT, _, i, rfl, S, Ly, il, by omega, fun ws mw lw => ?_⟩
    refine ⟨p, k + 1000 + (n - (i + 1)) * 20, m, y, hI ws, by rw [nL_ints], pot_at lt (po.less arith), m16, oy, by unfold hI; rw [List.length_map]; omega, fun n2 o6 on2 fl po6 => ?_⟩
    rw [pot_app lt]
    refine append_ref own0 (by rw [List.length_map]; omega) ?_
    rw [put0]
    refine hN _ _ (.inl ⟨i + 1, os2 ++ [n2], o6, _, _, rfl, rfl, by rw [List.map_append]; rfl, by rw [List.length_append, l2]; rfl, by omega, fun x hx => ?_, fun s hs => ?_, po6⟩)
    · rcases List.mem_append.mp hx with z | z
      · exact oo2 x z
      · rw [List.mem_singleton.mp z]; exact on2
    · rcases Nat.lt_or_ge s i with l | l
      · have e3 : (os2 ++ [n2]).getD s [] = os2.getD s [] := by rw [List.getD_eq_getElem?_getD, List.getElem?_append_left (by omega), ← List.getD_eq_getElem?_getD]
        rw [e3]
        exact od s l
      · have es : s = i := by omega
        subst es
        have e3 : (os2 ++ [n2]).getD s [] = n2 := by rw [List.getD_eq_getElem?_getD, List.getElem?_append_right (by omega), l2]; simp
        rw [e3, eg]
        exact ⟨hI ws, fun k u a => List.mem_map.mpr ⟨k, (mw k).mpr ⟨u, a⟩, rfl⟩, fl⟩
  · rintro r st' ⟨i, os2, o, x9, x10, e, rfl, rfl, l2, le, oo2, od, po⟩
    have ei : i = n := by
      have := List.drop_eq_nil_iff.mp e.symm
      rw [enumD_length, List.length_map] at this
      omega
    subst ei
    try dsimp only
    rw [e_seq]
    try simp only [e_var, e_C, e_op, e_neg, e_isN, e_notN, e_and, e_or, e_not, e_test, e_tAnd, e_tOr, e_tNot, e_tYes, e_if, e_aNil, e_aCons, e_tup, e_lst, e_lstN, e_len0, e_len1, e_len2, e_len3, e_len4, e_len5, e_cb, e_on1, e_on2, e_onI, e_onB, e_onO, e_onO0, e_onOO, e_I0, e_I, e_add, e_addT, e_addS, e_addL, e_addLR, e_addRL, e_addRR, e_mul, e_mulL, e_mulT, e_rev, e_revT, e_ix, e_eqI, e_eqS, e_eqB, e_neI, e_neS, e_neB, e_ltI, e_chain, e_len, e_abs, e_2I, e_tuple1, e_tuple2, e_tuple3, e_listT, e_listN, e_allR, e_seqT, e_seqK, e_seqL, e_isi, e_isB, e_notB, e_truth, e_next, e_drop, e_ret, e_retN, e_ifS, e_set, e_asg, e_par, e_nm, e_gsN, e_gsC, e_gTpK, e_gTpL, e_sum, e_maxL, e_minL, e_maxDef, e_int, e_intB, e_aug, e_on3, e_par3, e_newK, e_getK, e_keyI, e_keyS, e_inK, e_ninK, e_putK, e_lenK, e_lstS, e_seqX, e_gTpT, e_oN, e_oS, e_sl, e_slT, e_slL, e_finT, e_finN, e_index, e_idxT, e_idxL, e_mIx, e_ixST, e_ixSL, e_mtL, e_w, e_w1, e_w2, e_wE, e_wZ, e_itK, e_itT, e_itL, e_itT2, e_itL2, e_lc, e_for, e_wipe0, e_wipe, e_okI, e_okR, e_gSb, List.getElem?_cons_zero, List.getElem?_cons_succ, List.set_cons_zero, List.set_cons_succ]
    refine ⟨p, k + 600, m, i, P, os.map DL.ordT, _, rfl, pot_at lt (po.less (by omega)), S, m16, n16, Ly, fun P2 o6 lP2 oP2 tk po6 => ?_⟩
    rw [pot_app lt]
    try simp only [e_var, e_C, e_op, e_neg, e_isN, e_notN, e_and, e_or, e_not, e_test, e_tAnd, e_tOr, e_tNot, e_tYes, e_if, e_aNil, e_aCons, e_tup, e_lst, e_lstN, e_len0, e_len1, e_len2, e_len3, e_len4, e_len5, e_cb, e_on1, e_on2, e_onI, e_onB, e_onO, e_onO0, e_onOO, e_I0, e_I, e_add, e_addT, e_addS, e_addL, e_addLR, e_addRL, e_addRR, e_mul, e_mulL, e_mulT, e_rev, e_revT, e_ix, e_eqI, e_eqS, e_eqB, e_neI, e_neS, e_neB, e_ltI, e_chain, e_len, e_abs, e_2I, e_tuple1, e_tuple2, e_tuple3, e_listT, e_listN, e_allR, e_seqT, e_seqK, e_seqL, e_isi, e_isB, e_notB, e_truth, e_next, e_drop, e_ret, e_retN, e_ifS, e_set, e_asg, e_par, e_nm, e_gsN, e_gsC, e_gTpK, e_gTpL, e_sum, e_maxL, e_minL, e_maxDef, e_int, e_intB, e_aug, e_on3, e_par3, e_newK, e_getK, e_keyI, e_keyS, e_inK, e_ninK, e_putK, e_lenK, e_lstS, e_seqX, e_gTpT, e_oN, e_oS, e_sl, e_slT, e_slL, e_finT, e_finN, e_index, e_idxT, e_idxL, e_mIx, e_ixST, e_ixSL, e_mtL, e_w, e_w1, e_w2, e_wE, e_wZ, e_itK, e_itT, e_itL, e_itT2, e_itL2, e_lc, e_for, e_wipe0, e_wipe, e_okI, e_okR, e_gSb, List.getElem?_cons_zero, List.getElem?_cons_succ, List.set_cons_zero, List.set_cons_succ, seq_ref own0]
    refine ⟨m, os2, rfl, oo2, by omega, by omega, ?_⟩
    have S2 : Setg m i P2 (os2.map DL.ordT) := ⟨lP2, oP2, by rw [List.length_map]; exact l2, fun t ht => by obtain ⟨y, hy, rfl⟩ := List.mem_map.mp ht; exact (oo2 y hy).tb⟩
    have all2 : ∀ t ∈ os2.map DL.ordT, noRing t = true := fun t ht => by obtain ⟨y, hy, rfl⟩ := List.mem_map.mp ht; exact ordT_noRing (oo2 y hy)
    have T2 := S2.trn all2
    have A := alike_of S Ly lo l2 oo oo2 tk od
    obtain ⟨w1, w2⟩ := whole_same S S2 T H A
    generalize os2.map DL.ordT = R2 at S2 all2 T2 A w1 w2
    generalize hR : os.map DL.ordT = R at S all T G K Ly A w1 w2
    have few := H.few
    have smL : Sm 1 1323 (.tup ((layF P R h).map D.int)) := sm_lay Ly (by omega) (by omega)
    have st1 : Stb P R (layF P R h) := layF_stb S T H
    have st2 : Stb P2 R2 (layF P R h) := by
      have z := layF_stb S2 T2 H
      rw [w1] at z
      exact z
    have g2 : Good m i P2 (layF P R h) := by
      have z := (layF_good S2 H).1
      rw [w1] at z
      exact z
    try dsimp only
    rw [e_seq]
    try simp only [e_var, e_C, e_op, e_neg, e_isN, e_notN, e_and, e_or, e_not, e_test, e_tAnd, e_tOr, e_tNot, e_tYes, e_if, e_aNil, e_aCons, e_tup, e_lst, e_lstN, e_len0, e_len1, e_len2, e_len3, e_len4, e_len5, e_cb, e_on1, e_on2, e_onI, e_onB, e_onO, e_onO0, e_onOO, e_I0, e_I, e_add, e_addT, e_addS, e_addL, e_addLR, e_addRL, e_addRR, e_mul, e_mulL, e_mulT, e_rev, e_revT, e_ix, e_eqI, e_eqS, e_eqB, e_neI, e_neS, e_neB, e_ltI, e_chain, e_len, e_abs, e_2I, e_tuple1, e_tuple2, e_tuple3, e_listT, e_listN, e_allR, e_seqT, e_seqK, e_seqL, e_isi, e_isB, e_notB, e_truth, e_next, e_drop, e_ret, e_retN, e_ifS, e_set, e_asg, e_par, e_nm, e_gsN, e_gsC, e_gTpK, e_gTpL, e_sum, e_maxL, e_minL, e_maxDef, e_int, e_intB, e_aug, e_on3, e_par3, e_newK, e_getK, e_keyI, e_keyS, e_inK, e_ninK, e_putK, e_lenK, e_lstS, e_seqX, e_gTpT, e_oN, e_oS, e_sl, e_slT, e_slL, e_finT, e_finN, e_index, e_idxT, e_idxL, e_mIx, e_ixST, e_ixSL, e_mtL, e_w, e_w1, e_w2, e_wE, e_wZ, e_itK, e_itT, e_itL, e_itT2, e_itL2, e_lc, e_for, e_wipe0, e_wipe, e_okI, e_okR, e_gSb, List.getElem?_cons_zero, List.getElem?_cons_succ, List.set_cons_zero, List.set_cons_succ]
    refine ⟨m, i, P2, R2, h, rfl, S2, by omega, by omega, n0, H, ?_⟩
    rw [w1, w2]
    refine ⟨m, i, P, R, h, rfl, S, by omega, by omega, n0, H, ?_⟩
    have smp : ∀ d ∈ (pathsF P R h).map pathD, Sm 2 26000 d := fun d hd => by
      obtain ⟨x, hx, rfl⟩ := List.mem_map.mp hd
      have z := pathsG_sm S m16 n16 h [] H x
      rw [lay_nil] at z
      exact z hx
    have smt : Sm 4 900000 (.tup [rowD (layF P R h), .lst ((pathsF P R h).map pathD)]) := (sm_tup (k := 3) (c := 416100) (m := 2) (fun d hd => by
      simp only [List.mem_cons, List.not_mem_nil, or_false] at hd
      rcases hd with rfl | rfl
      · exact smL.mono (by decide) (by decide)
      · exact (sm_lst (m := 16) smp (by rw [List.length_map]; unfold pathsF; rw [pathsG_len]; omega)).mono (by decide) (by decide)) (by simp)).mono (by decide) (by decide)
    refine ne_tup smt (by decide) ?_
    try simp only [e_var, e_C, e_op, e_neg, e_isN, e_notN, e_and, e_or, e_not, e_test, e_tAnd, e_tOr, e_tNot, e_tYes, e_if, e_aNil, e_aCons, e_tup, e_lst, e_lstN, e_len0, e_len1, e_len2, e_len3, e_len4, e_len5, e_cb, e_on1, e_on2, e_onI, e_onB, e_onO, e_onO0, e_onOO, e_I0, e_I, e_add, e_addT, e_addS, e_addL, e_addLR, e_addRL, e_addRR, e_mul, e_mulL, e_mulT, e_rev, e_revT, e_ix, e_eqI, e_eqS, e_eqB, e_neI, e_neS, e_neB, e_ltI, e_chain, e_len, e_abs, e_2I, e_tuple1, e_tuple2, e_tuple3, e_listT, e_listN, e_allR, e_seqT, e_seqK, e_seqL, e_isi, e_isB, e_notB, e_truth, e_next, e_drop, e_ret, e_retN, e_ifS, e_set, e_asg, e_par, e_nm, e_gsN, e_gsC, e_gTpK, e_gTpL, e_sum, e_maxL, e_minL, e_maxDef, e_int, e_intB, e_aug, e_on3, e_par3, e_newK, e_getK, e_keyI, e_keyS, e_inK, e_ninK, e_putK, e_lenK, e_lstS, e_seqX, e_gTpT, e_oN, e_oS, e_sl, e_slT, e_slL, e_finT, e_finN, e_index, e_idxT, e_idxL, e_mIx, e_ixST, e_ixSL, e_mtL, e_w, e_w1, e_w2, e_wE, e_wZ, e_itK, e_itT, e_itL, e_itT2, e_itL2, e_lc, e_for, e_wipe0, e_wipe, e_okI, e_okR, e_gSb, List.getElem?_cons_zero, List.getElem?_cons_succ, List.set_cons_zero, List.set_cons_succ]
    refine iteF' (by decide) ?_
    have ll : (nL h).length = h.length := by unfold nL; rw [List.length_map]
    try dsimp only
    rw [e_seq]
    try simp only [e_var, e_C, e_op, e_neg, e_isN, e_notN, e_and, e_or, e_not, e_test, e_tAnd, e_tOr, e_tNot, e_tYes, e_if, e_aNil, e_aCons, e_tup, e_lst, e_lstN, e_len0, e_len1, e_len2, e_len3, e_len4, e_len5, e_cb, e_on1, e_on2, e_onI, e_onB, e_onO, e_onO0, e_onOO, e_I0, e_I, e_add, e_addT, e_addS, e_addL, e_addLR, e_addRL, e_addRR, e_mul, e_mulL, e_mulT, e_rev, e_revT, e_ix, e_eqI, e_eqS, e_eqB, e_neI, e_neS, e_neB, e_ltI, e_chain, e_len, e_abs, e_2I, e_tuple1, e_tuple2, e_tuple3, e_listT, e_listN, e_allR, e_seqT, e_seqK, e_seqL, e_isi, e_isB, e_notB, e_truth, e_next, e_drop, e_ret, e_retN, e_ifS, e_set, e_asg, e_par, e_nm, e_gsN, e_gsC, e_gTpK, e_gTpL, e_sum, e_maxL, e_minL, e_maxDef, e_int, e_intB, e_aug, e_on3, e_par3, e_newK, e_getK, e_keyI, e_keyS, e_inK, e_ninK, e_putK, e_lenK, e_lstS, e_seqX, e_gTpT, e_oN, e_oS, e_sl, e_slT, e_slL, e_finT, e_finN, e_index, e_idxT, e_idxL, e_mIx, e_ixST, e_ixSL, e_mtL, e_w, e_w1, e_w2, e_wE, e_wZ, e_itK, e_itT, e_itL, e_itT2, e_itL2, e_lc, e_for, e_wipe0, e_wipe, e_okI, e_okR, e_gSb, List.getElem?_cons_zero, List.getElem?_cons_succ, List.set_cons_zero, List.set_cons_succ]
    refine ⟨p, _, nL h, k + 500, rfl, rfl, fun z => (by cases z), by omega, sm_nL H (by omega), pot_at lt (po6.less (by omega)), fun ys o7 pm po7 => ?_⟩
    rw [pot_app lt]
    obtain ⟨h1, rfl, p1⟩ := nL_perm pm
    try simp only [e_var, e_C, e_op, e_neg, e_isN, e_notN, e_and, e_or, e_not, e_test, e_tAnd, e_tOr, e_tNot, e_tYes, e_if, e_aNil, e_aCons, e_tup, e_lst, e_lstN, e_len0, e_len1, e_len2, e_len3, e_len4, e_len5, e_cb, e_on1, e_on2, e_onI, e_onB, e_onO, e_onO0, e_onOO, e_I0, e_I, e_add, e_addT, e_addS, e_addL, e_addLR, e_addRL, e_addRR, e_mul, e_mulL, e_mulT, e_rev, e_revT, e_ix, e_eqI, e_eqS, e_eqB, e_neI, e_neS, e_neB, e_ltI, e_chain, e_len, e_abs, e_2I, e_tuple1, e_tuple2, e_tuple3, e_listT, e_listN, e_allR, e_seqT, e_seqK, e_seqL, e_isi, e_isB, e_notB, e_truth, e_next, e_drop, e_ret, e_retN, e_ifS, e_set, e_asg, e_par, e_nm, e_gsN, e_gsC, e_gTpK, e_gTpL, e_sum, e_maxL, e_minL, e_maxDef, e_int, e_intB, e_aug, e_on3, e_par3, e_newK, e_getK, e_keyI, e_keyS, e_inK, e_ninK, e_putK, e_lenK, e_lstS, e_seqX, e_gTpT, e_oN, e_oS, e_sl, e_slT, e_slL, e_finT, e_finN, e_index, e_idxT, e_idxL, e_mIx, e_ixST, e_ixSL, e_mtL, e_w, e_w1, e_w2, e_wE, e_wZ, e_itK, e_itT, e_itL, e_itT2, e_itL2, e_lc, e_for, e_wipe0, e_wipe, e_okI, e_okR, e_gSb, List.getElem?_cons_zero, List.getElem?_cons_succ, List.set_cons_zero, List.set_cons_succ]
    refine sort_ev (ns := hI h) (by rw [nL_ints]; rfl) (by unfold hI; rw [List.length_map]; omega) ?_
    rw [srt_row]
    have p2 := srt_perm h
    have H1 := H.ofPerm p1
    have H2 := H.ofPerm p2
    generalize srt h = h2 at p2 H2
    refine fin_lst ?_
    try simp only [e_var, e_C, e_op, e_neg, e_isN, e_notN, e_and, e_or, e_not, e_test, e_tAnd, e_tOr, e_tNot, e_tYes, e_if, e_aNil, e_aCons, e_tup, e_lst, e_lstN, e_len0, e_len1, e_len2, e_len3, e_len4, e_len5, e_cb, e_on1, e_on2, e_onI, e_onB, e_onO, e_onO0, e_onOO, e_I0, e_I, e_add, e_addT, e_addS, e_addL, e_addLR, e_addRL, e_addRR, e_mul, e_mulL, e_mulT, e_rev, e_revT, e_ix, e_eqI, e_eqS, e_eqB, e_neI, e_neS, e_neB, e_ltI, e_chain, e_len, e_abs, e_2I, e_tuple1, e_tuple2, e_tuple3, e_listT, e_listN, e_allR, e_seqT, e_seqK, e_seqL, e_isi, e_isB, e_notB, e_truth, e_next, e_drop, e_ret, e_retN, e_ifS, e_set, e_asg, e_par, e_nm, e_gsN, e_gsC, e_gTpK, e_gTpL, e_sum, e_maxL, e_minL, e_maxDef, e_int, e_intB, e_aug, e_on3, e_par3, e_newK, e_getK, e_keyI, e_keyS, e_inK, e_ninK, e_putK, e_lenK, e_lstS, e_seqX, e_gTpT, e_oN, e_oS, e_sl, e_slT, e_slL, e_finT, e_finN, e_index, e_idxT, e_idxL, e_mIx, e_ixST, e_ixSL, e_mtL, e_w, e_w1, e_w2, e_wE, e_wZ, e_itK, e_itT, e_itL, e_itT2, e_itL2, e_lc, e_for, e_wipe0, e_wipe, e_okI, e_okR, e_gSb, List.getElem?_cons_zero, List.getElem?_cons_succ, List.set_cons_zero, List.set_cons_succ]
    try dsimp only
    rw [e_seq]
    try simp only [e_var, e_C, e_op, e_neg, e_isN, e_notN, e_and, e_or, e_not, e_test, e_tAnd, e_tOr, e_tNot, e_tYes, e_if, e_aNil, e_aCons, e_tup, e_lst, e_lstN, e_len0, e_len1, e_len2, e_len3, e_len4, e_len5, e_cb, e_on1, e_on2, e_onI, e_onB, e_onO, e_onO0, e_onOO, e_I0, e_I, e_add, e_addT, e_addS, e_addL, e_addLR, e_addRL, e_addRR, e_mul, e_mulL, e_mulT, e_rev, e_revT, e_ix, e_eqI, e_eqS, e_eqB, e_neI, e_neS, e_neB, e_ltI, e_chain, e_len, e_abs, e_2I, e_tuple1, e_tuple2, e_tuple3, e_listT, e_listN, e_allR, e_seqT, e_seqK, e_seqL, e_isi, e_isB, e_notB, e_truth, e_next, e_drop, e_ret, e_retN, e_ifS, e_set, e_asg, e_par, e_nm, e_gsN, e_gsC, e_gTpK, e_gTpL, e_sum, e_maxL, e_minL, e_maxDef, e_int, e_intB, e_aug, e_on3, e_par3, e_newK, e_getK, e_keyI, e_keyS, e_inK, e_ninK, e_putK, e_lenK, e_lstS, e_seqX, e_gTpT, e_oN, e_oS, e_sl, e_slT, e_slL, e_finT, e_finN, e_index, e_idxT, e_idxL, e_mIx, e_ixST, e_ixSL, e_mtL, e_w, e_w1, e_w2, e_wE, e_wZ, e_itK, e_itT, e_itL, e_itT2, e_itL2, e_lc, e_for, e_wipe0, e_wipe, e_okI, e_okR, e_gSb, List.getElem?_cons_zero, List.getElem?_cons_succ, List.set_cons_zero, List.set_cons_succ]
    refine ⟨m, i, P2, R2, h1, rfl, S2, by omega, by omega, n0, H1, ?_⟩
    have w3 : layF P2 R2 h1 = layF P R h := (layF_any S2 T2 H1 H (fun k => p1.mem_iff)).trans w1
    have w4 : layF P2 R2 h2 = layF P R h := (layF_any S2 T2 H2 H (fun k => p2.mem_iff)).trans w1
    rw [w3]
    refine ne_tup smL (by decide) ?_
    try simp only [e_var, e_C, e_op, e_neg, e_isN, e_notN, e_and, e_or, e_not, e_test, e_tAnd, e_tOr, e_tNot, e_tYes, e_if, e_aNil, e_aCons, e_tup, e_lst, e_lstN, e_len0, e_len1, e_len2, e_len3, e_len4, e_len5, e_cb, e_on1, e_on2, e_onI, e_onB, e_onO, e_onO0, e_onOO, e_I0, e_I, e_add, e_addT, e_addS, e_addL, e_addLR, e_addRL, e_addRR, e_mul, e_mulL, e_mulT, e_rev, e_revT, e_ix, e_eqI, e_eqS, e_eqB, e_neI, e_neS, e_neB, e_ltI, e_chain, e_len, e_abs, e_2I, e_tuple1, e_tuple2, e_tuple3, e_listT, e_listN, e_allR, e_seqT, e_seqK, e_seqL, e_isi, e_isB, e_notB, e_truth, e_next, e_drop, e_ret, e_retN, e_ifS, e_set, e_asg, e_par, e_nm, e_gsN, e_gsC, e_gTpK, e_gTpL, e_sum, e_maxL, e_minL, e_maxDef, e_int, e_intB, e_aug, e_on3, e_par3, e_newK, e_getK, e_keyI, e_keyS, e_inK, e_ninK, e_putK, e_lenK, e_lstS, e_seqX, e_gTpT, e_oN, e_oS, e_sl, e_slT, e_slL, e_finT, e_finN, e_index, e_idxT, e_idxL, e_mIx, e_ixST, e_ixSL, e_mtL, e_w, e_w1, e_w2, e_wE, e_wZ, e_itK, e_itT, e_itL, e_itT2, e_itL2, e_lc, e_for, e_wipe0, e_wipe, e_okI, e_okR, e_gSb, List.getElem?_cons_zero, List.getElem?_cons_succ, List.set_cons_zero, List.set_cons_succ]
    refine iteF' (by decide) ?_
    refine ⟨m, i, P2, R2, h2, rfl, S2, all2, by omega, by omega, n0, H2, ?_⟩
    rw [w4]
    refine ne_tup smL (by decide) ?_
    try simp only [e_var, e_C, e_op, e_neg, e_isN, e_notN, e_and, e_or, e_not, e_test, e_tAnd, e_tOr, e_tNot, e_tYes, e_if, e_aNil, e_aCons, e_tup, e_lst, e_lstN, e_len0, e_len1, e_len2, e_len3, e_len4, e_len5, e_cb, e_on1, e_on2, e_onI, e_onB, e_onO, e_onO0, e_onOO, e_I0, e_I, e_add, e_addT, e_addS, e_addL, e_addLR, e_addRL, e_addRR, e_mul, e_mulL, e_mulT, e_rev, e_revT, e_ix, e_eqI, e_eqS, e_eqB, e_neI, e_neS, e_neB, e_ltI, e_chain, e_len, e_abs, e_2I, e_tuple1, e_tuple2, e_tuple3, e_listT, e_listN, e_allR, e_seqT, e_seqK, e_seqL, e_isi, e_isB, e_notB, e_truth, e_next, e_drop, e_ret, e_retN, e_ifS, e_set, e_asg, e_par, e_nm, e_gsN, e_gsC, e_gTpK, e_gTpL, e_sum, e_maxL, e_minL, e_maxDef, e_int, e_intB, e_aug, e_on3, e_par3, e_newK, e_getK, e_keyI, e_keyS, e_inK, e_ninK, e_putK, e_lenK, e_lstS, e_seqX, e_gTpT, e_oN, e_oS, e_sl, e_slT, e_slL, e_finT, e_finN, e_index, e_idxT, e_idxL, e_mIx, e_ixST, e_ixSL, e_mtL, e_w, e_w1, e_w2, e_wE, e_wZ, e_itK, e_itT, e_itL, e_itT2, e_itL2, e_lc, e_for, e_wipe0, e_wipe, e_okI, e_okR, e_gSb, List.getElem?_cons_zero, List.getElem?_cons_succ, List.set_cons_zero, List.set_cons_succ]
    refine iteF' (by decide) ?_
    try dsimp only
    rw [e_seq]
    try simp only [e_var, e_C, e_op, e_neg, e_isN, e_notN, e_and, e_or, e_not, e_test, e_tAnd, e_tOr, e_tNot, e_tYes, e_if, e_aNil, e_aCons, e_tup, e_lst, e_lstN, e_len0, e_len1, e_len2, e_len3, e_len4, e_len5, e_cb, e_on1, e_on2, e_onI, e_onB, e_onO, e_onO0, e_onOO, e_I0, e_I, e_add, e_addT, e_addS, e_addL, e_addLR, e_addRL, e_addRR, e_mul, e_mulL, e_mulT, e_rev, e_revT, e_ix, e_eqI, e_eqS, e_eqB, e_neI, e_neS, e_neB, e_ltI, e_chain, e_len, e_abs, e_2I, e_tuple1, e_tuple2, e_tuple3, e_listT, e_listN, e_allR, e_seqT, e_seqK, e_seqL, e_isi, e_isB, e_notB, e_truth, e_next, e_drop, e_ret, e_retN, e_ifS, e_set, e_asg, e_par, e_nm, e_gsN, e_gsC, e_gTpK, e_gTpL, e_sum, e_maxL, e_minL, e_maxDef, e_int, e_intB, e_aug, e_on3, e_par3, e_newK, e_getK, e_keyI, e_keyS, e_inK, e_ninK, e_putK, e_lenK, e_lstS, e_seqX, e_gTpT, e_oN, e_oS, e_sl, e_slT, e_slL, e_finT, e_finN, e_index, e_idxT, e_idxL, e_mIx, e_ixST, e_ixSL, e_mtL, e_w, e_w1, e_w2, e_wE, e_wZ, e_itK, e_itT, e_itL, e_itT2, e_itL2, e_lc, e_for, e_wipe0, e_wipe, e_okI, e_okR, e_gSb, List.getElem?_cons_zero, List.getElem?_cons_succ, List.set_cons_zero, List.set_cons_succ]
    have fin : Rt st Q (.bl true) (st.set p o7 ++ [.lst (os2.map rowD)]) := rt_drop List.length_set rfl (cs_set po7) (q o7 (po7.less (by omega)))
    refine for_list (fun k : Nat => D.int (k : Nat)) (fun left r st' => ∃ (x15 : Option D), (∀ c ∈ left, c ∈ h) ∧ r = [some (.ref p), some (.int (m : Nat)), some (.int (i : Nat)), some (rowsD P), some (rowsD os), some (tabsD R), some (.tup (nL h)), some (.tup ((layF P R h).map D.int)), some (.ref st.length), x9, x10, some (rowsD P2), some (tabsD R2), some (.tup (nL h1)), some (.tup (nL h2)), x15, none] ∧ st' = st.set p o7 ++ [.lst (os2.map rowD)]) ?_ ?_ h _ _ ⟨_, fun c hc => hc, rfl, rfl⟩
    · rintro c left r st' N hN ⟨x15, hc, rfl, rfl⟩
      have ch := hc c List.mem_cons_self
      obtain ⟨s, hs⟩ := (K c).mpr ch
      obtain ⟨cm, sn⟩ := Ly.key hs
      have e1 := seek_yes S cm G st1 hs i 0 (by omega) (Nat.zero_le _)
      have e2 := seek_yes S2 cm g2 st2 hs i 0 (by omega) (Nat.zero_le _)
      rw [A.rk S S2 cm sn ⟨s, hs, Nat.le_refl _⟩] at e2
      have rl := (S.rk_at cm sn).2.1
      try simp only [e_var, e_C, e_op, e_neg, e_isN, e_notN, e_and, e_or, e_not, e_test, e_tAnd, e_tOr, e_tNot, e_tYes, e_if, e_aNil, e_aCons, e_tup, e_lst, e_lstN, e_len0, e_len1, e_len2, e_len3, e_len4, e_len5, e_cb, e_on1, e_on2, e_onI, e_onB, e_onO, e_onO0, e_onOO, e_I0, e_I, e_add, e_addT, e_addS, e_addL, e_addLR, e_addRL, e_addRR, e_mul, e_mulL, e_mulT, e_rev, e_revT, e_ix, e_eqI, e_eqS, e_eqB, e_neI, e_neS, e_neB, e_ltI, e_chain, e_len, e_abs, e_2I, e_tuple1, e_tuple2, e_tuple3, e_listT, e_listN, e_allR, e_seqT, e_seqK, e_seqL, e_isi, e_isB, e_notB, e_truth, e_next, e_drop, e_ret, e_retN, e_ifS, e_set, e_asg, e_par, e_nm, e_gsN, e_gsC, e_gTpK, e_gTpL, e_sum, e_maxL, e_minL, e_maxDef, e_int, e_intB, e_aug, e_on3, e_par3, e_newK, e_getK, e_keyI, e_keyS, e_inK, e_ninK, e_putK, e_lenK, e_lstS, e_seqX, e_gTpT, e_oN, e_oS, e_sl, e_slT, e_slL, e_finT, e_finN, e_index, e_idxT, e_idxL, e_mIx, e_ixST, e_ixSL, e_mtL, e_w, e_w1, e_w2, e_wE, e_wZ, e_itK, e_itT, e_itL, e_itT2, e_itL2, e_lc, e_for, e_wipe0, e_wipe, e_okI, e_okR, e_gSb, List.getElem?_cons_zero, List.getElem?_cons_succ, List.set_cons_zero, List.set_cons_succ]
      refine ⟨m, i, P2, R2, _, c, rfl, S2, all2, by omega, by omega, Ly, cm, ?_⟩
      rw [e2]
      refine ⟨m, i, P, R, _, c, rfl, S, all, by omega, by omega, Ly, cm, ?_⟩
      rw [e1]
      refine ne_tup (sm_tup (k := 0) (c := 20) (m := 2) (fun d hd => by
        simp only [List.mem_cons, List.not_mem_nil, or_false] at hd
        rcases hd with rfl | rfl
        · exact sm_int (by omega) (by omega)
        · exact sm_int (by omega) (by omega)) (by simp)) (by decide) ?_
      try simp only [e_var, e_C, e_op, e_neg, e_isN, e_notN, e_and, e_or, e_not, e_test, e_tAnd, e_tOr, e_tNot, e_tYes, e_if, e_aNil, e_aCons, e_tup, e_lst, e_lstN, e_len0, e_len1, e_len2, e_len3, e_len4, e_len5, e_cb, e_on1, e_on2, e_onI, e_onB, e_onO, e_onO0, e_onOO, e_I0, e_I, e_add, e_addT, e_addS, e_addL, e_addLR, e_addRL, e_addRR, e_mul, e_mulL, e_mulT, e_rev, e_revT, e_ix, e_eqI, e_eqS, e_eqB, e_neI, e_neS, e_neB, e_ltI, e_chain, e_len, e_abs, e_2I, e_tuple1, e_tuple2, e_tuple3, e_listT, e_listN, e_allR, e_seqT, e_seqK, e_seqL, e_isi, e_isB, e_notB, e_truth, e_next, e_drop, e_ret, e_retN, e_ifS, e_set, e_asg, e_par, e_nm, e_gsN, e_gsC, e_gTpK, e_gTpL, e_sum, e_maxL, e_minL, e_maxDef, e_int, e_intB, e_aug, e_on3, e_par3, e_newK, e_getK, e_keyI, e_keyS, e_inK, e_ninK, e_putK, e_lenK, e_lstS, e_seqX, e_gTpT, e_oN, e_oS, e_sl, e_slT, e_slL, e_finT, e_finN, e_index, e_idxT, e_idxL, e_mIx, e_ixST, e_ixSL, e_mtL, e_w, e_w1, e_w2, e_wE, e_wZ, e_itK, e_itT, e_itL, e_itT2, e_itL2, e_lc, e_for, e_wipe0, e_wipe, e_okI, e_okR, e_gSb, List.getElem?_cons_zero, List.getElem?_cons_succ, List.set_cons_zero, List.set_cons_succ]
      refine iteF' (by decide) ?_
      exact hN _ _ (.inl ⟨_, fun c hc' => hc c (List.mem_cons_of_mem _ hc'), rfl, rfl⟩)
    · rintro r st' ⟨x15, hc, rfl, rfl⟩
      try dsimp only
      rw [e_seq]
      try simp only [e_var, e_C, e_op, e_neg, e_isN, e_notN, e_and, e_or, e_not, e_test, e_tAnd, e_tOr, e_tNot, e_tYes, e_if, e_aNil, e_aCons, e_tup, e_lst, e_lstN, e_len0, e_len1, e_len2, e_len3, e_len4, e_len5, e_cb, e_on1, e_on2, e_onI, e_onB, e_onO, e_onO0, e_onOO, e_I0, e_I, e_add, e_addT, e_addS, e_addL, e_addLR, e_addRL, e_addRR, e_mul, e_mulL, e_mulT, e_rev, e_revT, e_ix, e_eqI, e_eqS, e_eqB, e_neI, e_neS, e_neB, e_ltI, e_chain, e_len, e_abs, e_2I, e_tuple1, e_tuple2, e_tuple3, e_listT, e_listN, e_allR, e_seqT, e_seqK, e_seqL, e_isi, e_isB, e_notB, e_truth, e_next, e_drop, e_ret, e_retN, e_ifS, e_set, e_asg, e_par, e_nm, e_gsN, e_gsC, e_gTpK, e_gTpL, e_sum, e_maxL, e_minL, e_maxDef, e_int, e_intB, e_aug, e_on3, e_par3, e_newK, e_getK, e_keyI, e_keyS, e_inK, e_ninK, e_putK, e_lenK, e_lstS, e_seqX, e_gTpT, e_oN, e_oS, e_sl, e_slT, e_slL, e_finT, e_finN, e_index, e_idxT, e_idxL, e_mIx, e_ixST, e_ixSL, e_mtL, e_w, e_w1, e_w2, e_wE, e_wZ, e_itK, e_itT, e_itL, e_itT2, e_itL2, e_lc, e_for, e_wipe0, e_wipe, e_okI, e_okR, e_gSb, List.getElem?_cons_zero, List.getElem?_cons_succ, List.set_cons_zero, List.set_cons_succ, Int.toNat_natCast]
      refine ⟨⟨by omega, by omega⟩, ?_⟩
      refine for_inv (fun left r st' => ∃ (x9 x16 : Option D), (∀ d ∈ left, ∃ c : Nat, d = .int (c : Nat) ∧ c < i) ∧ r = [some (.ref p), some (.int (m : Nat)), some (.int (i : Nat)), some (rowsD P), some (rowsD os), some (tabsD R), some (.tup (nL h)), some (.tup ((layF P R h).map D.int)), some (.ref st.length), x9, x10, some (rowsD P2), some (tabsD R2), some (.tup (nL h1)), some (.tup (nL h2)), x15, x16] ∧ st' = st.set p o7 ++ [.lst (os2.map rowD)]) ?_ ?_ _ _ _ ⟨_, _, fun d hd => (by obtain ⟨c, lc, rfl⟩ := rgD_mem hd; exact ⟨c, by rw [Int.zero_add], by omega⟩), rfl, rfl⟩
      · rintro d left r st' N hN ⟨x9, x16, hz, rfl, rfl⟩
        obtain ⟨s, rfl, sn⟩ := hz d List.mem_cons_self
        have rs : atI ((layF P R h).map D.int) ((s : Nat) : Int) = some (.int ((layF P R h).getD s 0)) := row_at (by rw [Ly.len]; exact sn)
        have go : ∀ x9 x16 : Option D, N [some (.ref p), some (.int (m : Nat)), some (.int (i : Nat)), some (rowsD P), some (rowsD os), some (tabsD R), some (.tup (nL h)), some (.tup ((layF P R h).map D.int)), some (.ref st.length), x9, x10, some (rowsD P2), some (tabsD R2), some (.tup (nL h1)), some (.tup (nL h2)), x15, x16] (st.set p o7 ++ [.lst (os2.map rowD)]) := fun x9 x16 => hN _ _ (.inl ⟨_, _, fun d hd => hz d (List.mem_cons_of_mem _ hd), rfl, rfl⟩)
        try simp only [e_var, e_C, e_op, e_neg, e_isN, e_notN, e_and, e_or, e_not, e_test, e_tAnd, e_tOr, e_tNot, e_tYes, e_if, e_aNil, e_aCons, e_tup, e_lst, e_lstN, e_len0, e_len1, e_len2, e_len3, e_len4, e_len5, e_cb, e_on1, e_on2, e_onI, e_onB, e_onO, e_onO0, e_onOO, e_I0, e_I, e_add, e_addT, e_addS, e_addL, e_addLR, e_addRL, e_addRR, e_mul, e_mulL, e_mulT, e_rev, e_revT, e_ix, e_eqI, e_eqS, e_eqB, e_neI, e_neS, e_neB, e_ltI, e_chain, e_len, e_abs, e_2I, e_tuple1, e_tuple2, e_tuple3, e_listT, e_listN, e_allR, e_seqT, e_seqK, e_seqL, e_isi, e_isB, e_notB, e_truth, e_next, e_drop, e_ret, e_retN, e_ifS, e_set, e_asg, e_par, e_nm, e_gsN, e_gsC, e_gTpK, e_gTpL, e_sum, e_maxL, e_minL, e_maxDef, e_int, e_intB, e_aug, e_on3, e_par3, e_newK, e_getK, e_keyI, e_keyS, e_inK, e_ninK, e_putK, e_lenK, e_lstS, e_seqX, e_gTpT, e_oN, e_oS, e_sl, e_slT, e_slL, e_finT, e_finN, e_index, e_idxT, e_idxL, e_mIx, e_ixST, e_ixSL, e_mtL, e_w, e_w1, e_w2, e_wE, e_wZ, e_itK, e_itT, e_itL, e_itT2, e_itL2, e_lc, e_for, e_wipe0, e_wipe, e_okI, e_okR, e_gSb, List.getElem?_cons_zero, List.getElem?_cons_succ, List.set_cons_zero, List.set_cons_succ, rs]
        rcases Ly.either sn with em | ⟨c, hc⟩
        · have ex : (layF P R h).getD s 0 = -1 := by rw [List.getD_eq_getElem?_getD, em]; rfl
          rw [ex]
          refine iteF' (by decide) ?_
          exact go _ _
        · have ex : (layF P R h).getD s 0 = (c : Int) := by unfold At at hc; rw [List.getD_eq_getElem?_getD, hc]; rfl
          rw [ex]
          refine iteT' (decide_eq_true (by omega)) ?_
          try dsimp only
          rw [e_seq]
          try simp only [e_var, e_C, e_op, e_neg, e_isN, e_notN, e_and, e_or, e_not, e_test, e_tAnd, e_tOr, e_tNot, e_tYes, e_if, e_aNil, e_aCons, e_tup, e_lst, e_lstN, e_len0, e_len1, e_len2, e_len3, e_len4, e_len5, e_cb, e_on1, e_on2, e_onI, e_onB, e_onO, e_onO0, e_onOO, e_I0, e_I, e_add, e_addT, e_addS, e_addL, e_addLR, e_addRL, e_addRR, e_mul, e_mulL, e_mulT, e_rev, e_revT, e_ix, e_eqI, e_eqS, e_eqB, e_neI, e_neS, e_neB, e_ltI, e_chain, e_len, e_abs, e_2I, e_tuple1, e_tuple2, e_tuple3, e_listT, e_listN, e_allR, e_seqT, e_seqK, e_seqL, e_isi, e_isB, e_notB, e_truth, e_next, e_drop, e_ret, e_retN, e_ifS, e_set, e_asg, e_par, e_nm, e_gsN, e_gsC, e_gTpK, e_gTpL, e_sum, e_maxL, e_minL, e_maxDef, e_int, e_intB, e_aug, e_on3, e_par3, e_newK, e_getK, e_keyI, e_keyS, e_inK, e_ninK, e_putK, e_lenK, e_lstS, e_seqX, e_gTpT, e_oN, e_oS, e_sl, e_slT, e_slL, e_finT, e_finN, e_index, e_idxT, e_idxL, e_mIx, e_ixST, e_ixSL, e_mtL, e_w, e_w1, e_w2, e_wE, e_wZ, e_itK, e_itT, e_itL, e_itT2, e_itL2, e_lc, e_for, e_wipe0, e_wipe, e_okI, e_okR, e_gSb, List.getElem?_cons_zero, List.getElem?_cons_succ, List.set_cons_zero, List.set_cons_succ]
          refine ⟨m, i, P, R, _, s, c, rfl, S, all, by omega, by omega, Ly, hc, fun ks mk => ⟨fun no => ?_, fun v t b => ?_⟩⟩
          · try dsimp only
            rw [e_seq]
            try simp only [e_var, e_C, e_op, e_neg, e_isN, e_notN, e_and, e_or, e_not, e_test, e_tAnd, e_tOr, e_tNot, e_tYes, e_if, e_aNil, e_aCons, e_tup, e_lst, e_lstN, e_len0, e_len1, e_len2, e_len3, e_len4, e_len5, e_cb, e_on1, e_on2, e_onI, e_onB, e_onO, e_onO0, e_onOO, e_I0, e_I, e_add, e_addT, e_addS, e_addL, e_addLR, e_addRL, e_addRR, e_mul, e_mulL, e_mulT, e_rev, e_revT, e_ix, e_eqI, e_eqS, e_eqB, e_neI, e_neS, e_neB, e_ltI, e_chain, e_len, e_abs, e_2I, e_tuple1, e_tuple2, e_tuple3, e_listT, e_listN, e_allR, e_seqT, e_seqK, e_seqL, e_isi, e_isB, e_notB, e_truth, e_next, e_drop, e_ret, e_retN, e_ifS, e_set, e_asg, e_par, e_nm, e_gsN, e_gsC, e_gTpK, e_gTpL, e_sum, e_maxL, e_minL, e_maxDef, e_int, e_intB, e_aug, e_on3, e_par3, e_newK, e_getK, e_keyI, e_keyS, e_inK, e_ninK, e_putK, e_lenK, e_lstS, e_seqX, e_gTpT, e_oN, e_oS, e_sl, e_slT, e_slL, e_finT, e_finN, e_index, e_idxT, e_idxL, e_mIx, e_ixST, e_ixSL, e_mtL, e_w, e_w1, e_w2, e_wE, e_wZ, e_itK, e_itT, e_itL, e_itT2, e_itL2, e_lc, e_for, e_wipe0, e_wipe, e_okI, e_okR, e_gSb, List.getElem?_cons_zero, List.getElem?_cons_succ, List.set_cons_zero, List.set_cons_succ]
            refine ⟨m, i, P2, R2, _, s, c, rfl, S2, all2, by omega, by omega, Ly, hc, fun ks2 mk2 => ⟨fun no2 => ?_, fun v2 t2 b2 => ?_⟩⟩
            · try simp only [e_var, e_C, e_op, e_neg, e_isN, e_notN, e_and, e_or, e_not, e_test, e_tAnd, e_tOr, e_tNot, e_tYes, e_if, e_aNil, e_aCons, e_tup, e_lst, e_lstN, e_len0, e_len1, e_len2, e_len3, e_len4, e_len5, e_cb, e_on1, e_on2, e_onI, e_onB, e_onO, e_onO0, e_onOO, e_I0, e_I, e_add, e_addT, e_addS, e_addL, e_addLR, e_addRL, e_addRR, e_mul, e_mulL, e_mulT, e_rev, e_revT, e_ix, e_eqI, e_eqS, e_eqB, e_neI, e_neS, e_neB, e_ltI, e_chain, e_len, e_abs, e_2I, e_tuple1, e_tuple2, e_tuple3, e_listT, e_listN, e_allR, e_seqT, e_seqK, e_seqL, e_isi, e_isB, e_notB, e_truth, e_next, e_drop, e_ret, e_retN, e_ifS, e_set, e_asg, e_par, e_nm, e_gsN, e_gsC, e_gTpK, e_gTpL, e_sum, e_maxL, e_minL, e_maxDef, e_int, e_intB, e_aug, e_on3, e_par3, e_newK, e_getK, e_keyI, e_keyS, e_inK, e_ninK, e_putK, e_lenK, e_lstS, e_seqX, e_gTpT, e_oN, e_oS, e_sl, e_slT, e_slL, e_finT, e_finN, e_index, e_idxT, e_idxL, e_mIx, e_ixST, e_ixSL, e_mtL, e_w, e_w1, e_w2, e_wE, e_wZ, e_itK, e_itT, e_itL, e_itT2, e_itL2, e_lc, e_for, e_wipe0, e_wipe, e_okI, e_okR, e_gSb, List.getElem?_cons_zero, List.getElem?_cons_succ, List.set_cons_zero, List.set_cons_succ]
              refine iteF' (by simp) ?_
              refine iteF' (by decide) ?_
              rw [if_neg (by decide)]
              exact go _ _
            · exact absurd ((best_same S S2 Ly A hc mk mk2).mp b2).1 (no _ _)
          · try dsimp only
            rw [e_seq]
            try simp only [e_var, e_C, e_op, e_neg, e_isN, e_notN, e_and, e_or, e_not, e_test, e_tAnd, e_tOr, e_tNot, e_tYes, e_if, e_aNil, e_aCons, e_tup, e_lst, e_lstN, e_len0, e_len1, e_len2, e_len3, e_len4, e_len5, e_cb, e_on1, e_on2, e_onI, e_onB, e_onO, e_onO0, e_onOO, e_I0, e_I, e_add, e_addT, e_addS, e_addL, e_addLR, e_addRL, e_addRR, e_mul, e_mulL, e_mulT, e_rev, e_revT, e_ix, e_eqI, e_eqS, e_eqB, e_neI, e_neS, e_neB, e_ltI, e_chain, e_len, e_abs, e_2I, e_tuple1, e_tuple2, e_tuple3, e_listT, e_listN, e_allR, e_seqT, e_seqK, e_seqL, e_isi, e_isB, e_notB, e_truth, e_next, e_drop, e_ret, e_retN, e_ifS, e_set, e_asg, e_par, e_nm, e_gsN, e_gsC, e_gTpK, e_gTpL, e_sum, e_maxL, e_minL, e_maxDef, e_int, e_intB, e_aug, e_on3, e_par3, e_newK, e_getK, e_keyI, e_keyS, e_inK, e_ninK, e_putK, e_lenK, e_lstS, e_seqX, e_gTpT, e_oN, e_oS, e_sl, e_slT, e_slL, e_finT, e_finN, e_index, e_idxT, e_idxL, e_mIx, e_ixST, e_ixSL, e_mtL, e_w, e_w1, e_w2, e_wE, e_wZ, e_itK, e_itT, e_itL, e_itT2, e_itL2, e_lc, e_for, e_wipe0, e_wipe, e_okI, e_okR, e_gSb, List.getElem?_cons_zero, List.getElem?_cons_succ, List.set_cons_zero, List.set_cons_succ]
            refine ⟨m, i, P2, R2, _, s, c, rfl, S2, all2, by omega, by omega, Ly, hc, fun ks2 mk2 => ⟨fun no2 => ?_, fun v2 t2 b2 => ?_⟩⟩
            · exact absurd ((best_same S S2 Ly A hc mk mk2).mpr b).1 (no2 _ _)
            · have ev := bestK_one S Ly sn b ((best_same S S2 Ly A hc mk mk2).mp b2)
              subst ev
              try simp only [e_var, e_C, e_op, e_neg, e_isN, e_notN, e_and, e_or, e_not, e_test, e_tAnd, e_tOr, e_tNot, e_tYes, e_if, e_aNil, e_aCons, e_tup, e_lst, e_lstN, e_len0, e_len1, e_len2, e_len3, e_len4, e_len5, e_cb, e_on1, e_on2, e_onI, e_onB, e_onO, e_onO0, e_onOO, e_I0, e_I, e_add, e_addT, e_addS, e_addL, e_addLR, e_addRL, e_addRR, e_mul, e_mulL, e_mulT, e_rev, e_revT, e_ix, e_eqI, e_eqS, e_eqB, e_neI, e_neS, e_neB, e_ltI, e_chain, e_len, e_abs, e_2I, e_tuple1, e_tuple2, e_tuple3, e_listT, e_listN, e_allR, e_seqT, e_seqK, e_seqL, e_isi, e_isB, e_notB, e_truth, e_next, e_drop, e_ret, e_retN, e_ifS, e_set, e_asg, e_par, e_nm, e_gsN, e_gsC, e_gTpK, e_gTpL, e_sum, e_maxL, e_minL, e_maxDef, e_int, e_intB, e_aug, e_on3, e_par3, e_newK, e_getK, e_keyI, e_keyS, e_inK, e_ninK, e_putK, e_lenK, e_lstS, e_seqX, e_gTpT, e_oN, e_oS, e_sl, e_slT, e_slL, e_finT, e_finN, e_index, e_idxT, e_idxL, e_mIx, e_ixST, e_ixSL, e_mtL, e_w, e_w1, e_w2, e_wE, e_wZ, e_itK, e_itT, e_itL, e_itT2, e_itL2, e_lc, e_for, e_wipe0, e_wipe, e_okI, e_okR, e_gSb, List.getElem?_cons_zero, List.getElem?_cons_succ, List.set_cons_zero, List.set_cons_succ]
              refine iteF' (by simp) ?_
              refine iteT' (decide_eq_true (by omega)) ?_
              refine ⟨m, i, P, R, _, s, rfl, S, Ly, sn, by omega, fun ws mw lw => ?_⟩
              have vi : ((v : Nat) : Int) ∈ hI ws := List.mem_map.mpr ⟨v, (mw v).mpr ⟨t, b.1.2.1, Nat.le_of_lt b.1.2.2⟩, rfl⟩
              refine nin_seq (ns := hI ws) (by rw [nL_ints]; rfl) ?_
              rw [e_onB, decide_eq_true vi, if_neg (by decide)]
              exact go _ _
      · rintro r st' ⟨x9, x16, hz, rfl, rfl⟩
        try simp only [e_var, e_C, e_op, e_neg, e_isN, e_notN, e_and, e_or, e_not, e_test, e_tAnd, e_tOr, e_tNot, e_tYes, e_if, e_aNil, e_aCons, e_tup, e_lst, e_lstN, e_len0, e_len1, e_len2, e_len3, e_len4, e_len5, e_cb, e_on1, e_on2, e_onI, e_onB, e_onO, e_onO0, e_onOO, e_I0, e_I, e_add, e_addT, e_addS, e_addL, e_addLR, e_addRL, e_addRR, e_mul, e_mulL, e_mulT, e_rev, e_revT, e_ix, e_eqI, e_eqS, e_eqB, e_neI, e_neS, e_neB, e_ltI, e_chain, e_len, e_abs, e_2I, e_tuple1, e_tuple2, e_tuple3, e_listT, e_listN, e_allR, e_seqT, e_seqK, e_seqL, e_isi, e_isB, e_notB, e_truth, e_next, e_drop, e_ret, e_retN, e_ifS, e_set, e_asg, e_par, e_nm, e_gsN, e_gsC, e_gTpK, e_gTpL, e_sum, e_maxL, e_minL, e_maxDef, e_int, e_intB, e_aug, e_on3, e_par3, e_newK, e_getK, e_keyI, e_keyS, e_inK, e_ninK, e_putK, e_lenK, e_lstS, e_seqX, e_gTpT, e_oN, e_oS, e_sl, e_slT, e_slL, e_finT, e_finN, e_index, e_idxT, e_idxL, e_mIx, e_ixST, e_ixSL, e_mtL, e_w, e_w1, e_w2, e_wE, e_wZ, e_itK, e_itT, e_itL, e_itT2, e_itL2, e_lc, e_for, e_wipe0, e_wipe, e_okI, e_okR, e_gSb, List.getElem?_cons_zero, List.getElem?_cons_succ, List.set_cons_zero, List.set_cons_succ]
        exact fin
end DL
namespace DL.K75
open PySem PySem.Spec PyProof.Rows L2 LamX PySem.W SL
open DL
def topS (i : Nat) : Stmt := PySem.Challenge.pw_samelayout_k75_whole_what_is_never_asked.main.body.getD i (.Pass ⟨0, 0, 0, 0⟩)
abbrev s_insert : Stmt := topS 7
abbrev n_insert : List Str := ["probes", "rule", "layout", "key", "slots", "path", "asking", "slot"]
theorem sc_insert : FnScope n_insert ["probes", "rule", "layout", "key"] (defScope s_insert) := ⟨rfl, rfl, rfl, by decide +kernel, rfl, by decide +kernel, by decide +kernel⟩
abbrev s_layout_of : Stmt := topS 8
abbrev n_layout_of : List Str := ["probes", "rule", "history", "layout", "key"]
theorem sc_layout_of : FnScope n_layout_of ["probes", "rule", "history"] (defScope s_layout_of) := ⟨rfl, rfl, rfl, by decide +kernel, rfl, by decide +kernel, by decide +kernel⟩
abbrev s_ring_at : Stmt := topS 10
abbrev n_ring_at : List Str := ["rule", "slot", "table", "a", "b", "c"]
theorem sc_ring_at : FnScope n_ring_at ["rule", "slot"] (defScope s_ring_at) := ⟨rfl, rfl, rfl, by decide +kernel, rfl, by decide +kernel, by decide +kernel⟩
abbrev s_require_ordered : Stmt := topS 12
abbrev n_require_ordered : List Str := ["rule", "slot"]
theorem sc_require_ordered : FnScope n_require_ordered ["rule"] (defScope s_require_ordered) := ⟨rfl, rfl, rfl, by decide +kernel, rfl, by decide +kernel, by decide +kernel⟩
abbrev s_slots_ahead : Stmt := topS 13
abbrev n_slots_ahead : List Str := ["order", "slot"]
theorem sc_slots_ahead : FnScope n_slots_ahead ["order", "slot"] (defScope s_slots_ahead) := ⟨rfl, rfl, rfl, by decide +kernel, rfl, by decide +kernel, by decide +kernel⟩
abbrev s_best : Stmt := topS 14
abbrev n_best : List Str := ["probes", "rule", "keys"]
theorem sc_best : FnScope n_best ["probes", "rule", "keys"] (defScope s_best) := ⟨rfl, rfl, rfl, by decide +kernel, rfl, by decide +kernel, by decide +kernel⟩
abbrev s_next_key : Stmt := topS 17
abbrev n_next_key : List Str := ["probes", "rule", "layout", "slot"]
theorem sc_next_key : FnScope n_next_key ["probes", "rule", "layout", "slot"] (defScope s_next_key) := ⟨rfl, rfl, rfl, by decide +kernel, rfl, by decide +kernel, by decide +kernel⟩
abbrev s_key_behind : Stmt := topS 18
abbrev n_key_behind : List Str := ["probes", "rule", "layout", "slot", "weaker", "key"]
theorem sc_key_behind : FnScope n_key_behind ["probes", "rule", "layout", "slot"] (defScope s_key_behind) := ⟨rfl, rfl, rfl, by decide +kernel, rfl, by decide +kernel, by decide +kernel⟩
abbrev s_strongest_asking : Stmt := topS 19
abbrev n_strongest_asking : List Str := ["probes", "rule", "layout", "slot", "keys", "asking", "key"]
theorem sc_strongest_asking : FnScope n_strongest_asking ["probes", "rule", "layout", "slot", "keys"] (defScope s_strongest_asking) := ⟨rfl, rfl, rfl, by decide +kernel, rfl, by decide +kernel, by decide +kernel⟩
abbrev s_would_rather : Stmt := topS 20
abbrev n_would_rather : List Str := ["probes", "layout", "key", "slot"]
theorem sc_would_rather : FnScope n_would_rather ["probes", "layout", "key", "slot"] (defScope s_would_rather) := ⟨rfl, rfl, rfl, by decide +kernel, rfl, by decide +kernel, by decide +kernel⟩
abbrev s_look_up : Stmt := topS 23
abbrev n_look_up : List Str := ["probes", "rule", "layout", "key", "reads", "slot"]
theorem sc_look_up : FnScope n_look_up ["probes", "rule", "layout", "key"] (defScope s_look_up) := ⟨rfl, rfl, rfl, by decide +kernel, rfl, by decide +kernel, by decide +kernel⟩
abbrev s__law_pot_of : Stmt := topS 25
abbrev n__law_pot_of : List Str := ["_law_script", "_law_k", "_law_cell", "_law_own"]
theorem sc__law_pot_of : FnScope n__law_pot_of ["_law_script", "_law_k"] (defScope s__law_pot_of) := ⟨rfl, rfl, rfl, by decide +kernel, rfl, by decide +kernel, by decide +kernel⟩
abbrev s__law_take : Stmt := topS 26
abbrev n__law_take : List Str := ["_law_pot", "_law_upto", "_law_digit", "_law_prime", "_law_mixed"]
theorem sc__law_take : FnScope n__law_take ["_law_pot", "_law_upto"] (defScope s__law_take) := ⟨rfl, rfl, rfl, by decide +kernel, rfl, by decide +kernel, by decide +kernel⟩
abbrev s__law_of : Stmt := topS 27
abbrev n__law_of : List Str := ["_law_pot", "_law_some"]
theorem sc__law_of : FnScope n__law_of ["_law_pot", "_law_some"] (defScope s__law_of) := ⟨rfl, rfl, rfl, by decide +kernel, rfl, by decide +kernel, by decide +kernel⟩
abbrev s__law_shuffled : Stmt := topS 28
abbrev n__law_shuffled : List Str := ["_law_pot", "_law_some", "_law_left", "_law_found"]
theorem sc__law_shuffled : FnScope n__law_shuffled ["_law_pot", "_law_some"] (defScope s__law_shuffled) := ⟨rfl, rfl, rfl, by decide +kernel, rfl, by decide +kernel, by decide +kernel⟩
abbrev s__law_drawn_probes : Stmt := topS 29
abbrev n__law_drawn_probes : List Str := ["_law_pot", "_law_keys", "_law_slots", "_law_way", "_law_base", "_law_found", "_law_turn", "_law_order", "_law_at", "_law_slot"]
theorem sc__law_drawn_probes : FnScope n__law_drawn_probes ["_law_pot", "_law_keys", "_law_slots"] (defScope s__law_drawn_probes) := ⟨rfl, rfl, rfl, by decide +kernel, rfl, by decide +kernel, by decide +kernel⟩
abbrev s__law_drawn_orders : Stmt := topS 30
abbrev n__law_drawn_orders : List Str := ["_law_pot", "_law_probes", "_law_slots", "_law_way", "_law_found", "_law_order", "_law_at", "_law_turned", "_law_slot"]
theorem sc__law_drawn_orders : FnScope n__law_drawn_orders ["_law_pot", "_law_probes"] (defScope s__law_drawn_orders) := ⟨rfl, rfl, rfl, by decide +kernel, rfl, by decide +kernel, by decide +kernel⟩
abbrev s__law_rule_of : Stmt := topS 31
abbrev n__law_rule_of : List Str := ["_law_orders", "_law_found", "_law_order", "_law_item"]
theorem sc__law_rule_of : FnScope n__law_rule_of ["_law_orders"] (defScope s__law_rule_of) := ⟨rfl, rfl, rfl, by decide +kernel, rfl, by decide +kernel, by decide +kernel⟩
abbrev s__law_asked : Stmt := topS 34
abbrev n__law_asked : List Str := ["_law_probes", "_law_layout", "_law_spot", "_law_found", "_law_own", "_law_item"]
theorem sc__law_asked : FnScope n__law_asked ["_law_probes", "_law_layout", "_law_spot"] (defScope s__law_asked) := ⟨rfl, rfl, rfl, by decide +kernel, rfl, by decide +kernel, by decide +kernel⟩
abbrev s__law_other_probes : Stmt := topS 35
abbrev n__law_other_probes : List Str := ["_law_pot", "_law_probes", "_law_layout", "_law_found", "_law_item", "_law_order", "_law_stays"]
theorem sc__law_other_probes : FnScope n__law_other_probes ["_law_pot", "_law_probes", "_law_layout"] (defScope s__law_other_probes) := ⟨rfl, rfl, rfl, by decide +kernel, rfl, by decide +kernel, by decide +kernel⟩
abbrev s__law_other_order : Stmt := topS 36
abbrev n__law_other_order : List Str := ["_law_pot", "_law_order", "_law_asked_here", "_law_item", "_law_found"]
theorem sc__law_other_order : FnScope n__law_other_order ["_law_pot", "_law_order", "_law_asked_here"] (defScope s__law_other_order) := ⟨rfl, rfl, rfl, by decide +kernel, rfl, by decide +kernel, by decide +kernel⟩
abbrev s__law_paths : Stmt := topS 37
abbrev n__law_paths : List Str := ["_law_probes", "_law_rule", "_law_history", "_law_layout", "_law_found", "_law_item", "_law_path"]
theorem sc__law_paths : FnScope n__law_paths ["_law_probes", "_law_rule", "_law_history"] (defScope s__law_paths) := ⟨rfl, rfl, rfl, by decide +kernel, rfl, by decide +kernel, by decide +kernel⟩
abbrev s__law_right : Stmt := topS 38
abbrev n__law_right : List Str := ["_law_pot", "_law_keys", "_law_slots", "_law_probes", "_law_orders", "_law_rule", "_law_history", "_law_layout", "_law_others", "_law_spot", "_law_order", "_law_second", "_law_tables", "_law_turned", "_law_some", "_law_item", "_law_one"]
theorem sc__law_right : FnScope n__law_right ["_law_pot"] (defScope s__law_right) := ⟨rfl, rfl, rfl, by decide +kernel, rfl, by decide +kernel, by decide +kernel⟩
abbrev s_law : Stmt := topS 39
abbrev n_law : List Str := ["_law_script", "_law_k", "_law_pot", "_law_turn"]
theorem sc_law : FnScope n_law ["_law_script"] (defScope s_law) := ⟨rfl, rfl, rfl, by decide +kernel, rfl, by decide +kernel, by decide +kernel⟩
structure Defs (K : Frag) (mg : Str → Option Value) (base : Heap) (T : List (Addr × Str)) : Prop where
  d_insert : ∃ f fd, Fun K "insert" "insert" s_insert f fd ∧ Binds K fd ["probes", "rule", "layout", "key"] [] ∧ mg "insert" = some (.ref f)
  d_layout_of : ∃ f fd, Fun K "layout_of" "layout_of" s_layout_of f fd ∧ Binds K fd ["probes", "rule", "history"] [] ∧ mg "layout_of" = some (.ref f)
  d_ring_at : ∃ f fd, Fun K "ring_at" "ring_at" s_ring_at f fd ∧ Binds K fd ["rule", "slot"] [] ∧ mg "ring_at" = some (.ref f)
  d_require_ordered : ∃ f fd, Fun K "require_ordered" "require_ordered" s_require_ordered f fd ∧ Binds K fd ["rule"] [] ∧ mg "require_ordered" = some (.ref f)
  d_slots_ahead : ∃ f fd, Fun K "slots_ahead" "slots_ahead" s_slots_ahead f fd ∧ Binds K fd ["order", "slot"] [] ∧ mg "slots_ahead" = some (.ref f)
  d_best : ∃ f fd, Fun K "best" "best" s_best f fd ∧ Binds K fd ["probes", "rule", "keys"] [] ∧ mg "best" = some (.ref f)
  d_next_key : ∃ f fd, Fun K "next_key" "next_key" s_next_key f fd ∧ Binds K fd ["probes", "rule", "layout", "slot"] [] ∧ mg "next_key" = some (.ref f)
  d_key_behind : ∃ f fd, Fun K "key_behind" "key_behind" s_key_behind f fd ∧ Binds K fd ["probes", "rule", "layout", "slot"] [] ∧ mg "key_behind" = some (.ref f)
  d_strongest_asking : ∃ f fd, Fun K "strongest_asking" "strongest_asking" s_strongest_asking f fd ∧ Binds K fd ["probes", "rule", "layout", "slot", "keys"] [] ∧ mg "strongest_asking" = some (.ref f) ∧ ∃ c Pt, fd.code = .ref c ∧ TabB base mg c Pt ∧ (Pt, qLam "strongest_asking") ∈ T ∧ ∀ p ∈ T, p.1 = Pt → p.2 = qLam "strongest_asking"
  d_would_rather : ∃ f fd, Fun K "would_rather" "would_rather" s_would_rather f fd ∧ Binds K fd ["probes", "layout", "key", "slot"] [] ∧ mg "would_rather" = some (.ref f)
  d_look_up : ∃ f fd, Fun K "look_up" "look_up" s_look_up f fd ∧ Binds K fd ["probes", "rule", "layout", "key"] [] ∧ mg "look_up" = some (.ref f)
  d__law_pot_of : ∃ f fd, Fun K "_law_pot_of" "_law_pot_of" s__law_pot_of f fd ∧ Binds K fd ["_law_script", "_law_k"] [] ∧ mg "_law_pot_of" = some (.ref f)
  d__law_take : ∃ f fd, Fun K "_law_take" "_law_take" s__law_take f fd ∧ Binds K fd ["_law_pot", "_law_upto"] [] ∧ mg "_law_take" = some (.ref f)
  d__law_of : ∃ f fd, Fun K "_law_of" "_law_of" s__law_of f fd ∧ Binds K fd ["_law_pot", "_law_some"] [] ∧ mg "_law_of" = some (.ref f)
  d__law_shuffled : ∃ f fd, Fun K "_law_shuffled" "_law_shuffled" s__law_shuffled f fd ∧ Binds K fd ["_law_pot", "_law_some"] [] ∧ mg "_law_shuffled" = some (.ref f)
  d__law_drawn_probes : ∃ f fd, Fun K "_law_drawn_probes" "_law_drawn_probes" s__law_drawn_probes f fd ∧ Binds K fd ["_law_pot", "_law_keys", "_law_slots"] [] ∧ mg "_law_drawn_probes" = some (.ref f)
  d__law_drawn_orders : ∃ f fd, Fun K "_law_drawn_orders" "_law_drawn_orders" s__law_drawn_orders f fd ∧ Binds K fd ["_law_pot", "_law_probes"] [] ∧ mg "_law_drawn_orders" = some (.ref f) ∧ ∃ c Pt, fd.code = .ref c ∧ TabB base mg c Pt ∧ (Pt, qLam "_law_drawn_orders") ∈ T ∧ ∀ p ∈ T, p.1 = Pt → p.2 = qLam "_law_drawn_orders"
  d__law_rule_of : ∃ f fd, Fun K "_law_rule_of" "_law_rule_of" s__law_rule_of f fd ∧ Binds K fd ["_law_orders"] [] ∧ mg "_law_rule_of" = some (.ref f)
  d__law_asked : ∃ f fd, Fun K "_law_asked" "_law_asked" s__law_asked f fd ∧ Binds K fd ["_law_probes", "_law_layout", "_law_spot"] [] ∧ mg "_law_asked" = some (.ref f)
  d__law_other_probes : ∃ f fd, Fun K "_law_other_probes" "_law_other_probes" s__law_other_probes f fd ∧ Binds K fd ["_law_pot", "_law_probes", "_law_layout"] [] ∧ mg "_law_other_probes" = some (.ref f)
  d__law_other_order : ∃ f fd, Fun K "_law_other_order" "_law_other_order" s__law_other_order f fd ∧ Binds K fd ["_law_pot", "_law_order", "_law_asked_here"] [] ∧ mg "_law_other_order" = some (.ref f)
  d__law_paths : ∃ f fd, Fun K "_law_paths" "_law_paths" s__law_paths f fd ∧ Binds K fd ["_law_probes", "_law_rule", "_law_history"] [] ∧ mg "_law_paths" = some (.ref f)
  d__law_right : ∃ f fd, Fun K "_law_right" "_law_right" s__law_right f fd ∧ Binds K fd ["_law_pot"] [] ∧ mg "_law_right" = some (.ref f)
  d_law : ∃ f fd, Fun K "law" "law" s_law f fd ∧ Binds K fd ["_law_script"] [] ∧ mg "law" = some (.ref f)
  c_EMPTY : ∃ u, mg "EMPTY" = some u ∧ RelV (.int (-1)) u
  c_NO_KEY : ∃ u, mg "NO_KEY" = some u ∧ RelV (.int (-1)) u
  c_NO_SLOT : ∃ u, mg "NO_SLOT" = some u ∧ RelV (.int (-1)) u
  z_abs : mg "abs" = none
  z_all : mg "all" = none
  z_enumerate : mg "enumerate" = none
  z_int : mg "int" = none
  z_len : mg "len" = none
  z_list : mg "list" = none
  z_max : mg "max" = none
  z_min : mg "min" = none
  z_range : mg "range" = none
  z_sorted : mg "sorted" = none
  z_tuple : mg "tuple" = none
section
variable {P : Program} {w : World} {K : Frag} {mg : Str → Option Value} {base : Heap} {T : List (Addr × Str)}
def Cal (P : Program) (w : World) (K : Frag) (mg : Str → Option Value) (base : Heap) (T : List (Addr × Str)) (x : Str) (st : Stmt) (k : Nat) (ps : List Str) (g : DRs) : Prop := ∃ f fd, Fun K x x st f fd ∧ Binds K fd ps [] ∧ mg x = some (.ref f) ∧ FnD P w K mg base T k f fd ps g
theorem ok_insert (D : Defs K mg base T) {g_ : DRs} (ar : ∀ ds st Q, g_ ds st Q → ds.length = 4) (sem : ∀ ds st Q, g_ ds st Q → F_insert { nx := fun _ st' => Rt st Q .non st', rt := Rt st Q } (startD 8 ds) st) : Cal P w K mg base T "insert" s_insert 1 ["probes", "rule", "layout", "key"] g_ := by
  obtain ⟨f, fd, F, b, m⟩ := D.d_insert
  obtain ⟨u_EMPTY, h_c_EMPTY, r_EMPTY⟩ := D.c_EMPTY
  exact ⟨f, fd, F, b, m, fnD_mk (k := 0) F sc_insert ar (fun cdv A outer s H E gd hr => (ds_cons (ds_if (dt_cmpR op_in_seq (opD_in false) (de_var (pv 3)) (de_var (pv 2)) (by rfl)) (ds_one ds_never) ds_nil) (ds_cons (ds_if (dt_cmpR op_notIn_seq (opD_in true) (de_globI (by rfl) h_c_EMPTY r_EMPTY) (de_var (pv 2)) (by rfl)) (ds_one ds_never) ds_nil) (ds_cons (ds_set (i := 4) sc_insert.nd rfl (.inl rfl) (de_callTy call_list_of callD_listN (by rfl) D.z_list (by decide +kernel) (da_cons (de_var (pv 2)) da_nil))) (ds_cons (ds_set (i := 5) sc_insert.nd rfl (.inl rfl) (de_lstN da_nil)) (ds_cons (ds_set (i := 6) sc_insert.nd rfl (.inl rfl) (de_var (pv 3))) (ds_cons (ds_set (i := 7) sc_insert.nd rfl (.inl rfl) (de_ix (de_ix (de_var (pv 0)) (de_var (pv 3)) (fun _ _ => rfl)) (de_int) (fun _ _ => rfl))) (ds_cons (ds_while PassesOwn.never (dt_cmpR (op_ne2 hr.units) opD_ne (de_ix (de_var (pv 4)) (de_var (pv 7)) (fun _ _ => rfl)) (de_globI (by rfl) h_c_EMPTY r_EMPTY) (nomark _)) (ds_cons (ds_if (dt_cmpR op_notIn_seq (opD_in true) (de_var (pv 6)) (de_ix (de_ix (de_var (pv 1)) (de_var (pv 7)) (fun _ _ => rfl)) (de_ix (de_var (pv 4)) (de_var (pv 7)) (fun _ _ => rfl)) (fun _ _ => rfl)) (by rfl)) (ds_cons (ds_expr (de_bmL PySem.F.slot_list_append PySem.F.type_list_append mt_append mtD_append (de_var (pv 5)) (da_cons (de_tup (da_cons (de_var (pv 6)) (da_cons (de_var (pv 7)) da_nil))) da_nil))) (ds_one (ds_asg (vs := [6]) (de_tup (da_cons (de_ix (de_var (pv 4)) (de_var (pv 7)) (fun _ _ => rfl)) (da_cons (de_var (pv 6)) da_nil))) (dg_tup rfl (dgs_cons (dg_name (i := 6) sc_insert.nd rfl (.inl rfl) (by decide)) (dgs_cons (dg_sub (de_var (pv 4)) (de_var (pv 7))) dgs_nil)))))) ds_nil) (ds_one (ds_set (i := 7) sc_insert.nd rfl (.inl rfl) (de_ix (de_ix (de_var (pv 0)) (de_var (pv 6)) (fun _ _ => rfl)) (de_add (de_index (de_ix (de_var (pv 0)) (de_var (pv 6)) (fun _ _ => rfl)) (da_cons (de_var (pv 7)) da_nil)) (de_int)) (fun _ _ => rfl)))))) (ds_cons (ds_asg (vs := []) (de_var (pv 6)) (dg_sub (de_var (pv 4)) (de_var (pv 7)))) (ds_cons (ds_expr (de_bmL PySem.F.slot_list_append PySem.F.type_list_append mt_append mtD_append (de_var (pv 5)) (da_cons (de_tup (da_cons (de_var (pv 6)) (da_cons (de_var (pv 7)) da_nil))) da_nil))) (ds_one (ds_ret (de_tup (da_cons (de_callTy call_tup2 callD_tup (by rfl) D.z_tuple (by decide +kernel) (da_cons (de_var (pv 4)) da_nil)) (da_cons (de_callTy call_tup2 callD_tup (by rfl) D.z_tuple (by decide +kernel) (da_cons (de_var (pv 5)) da_nil)) da_nil))))))))))))))) sem⟩
theorem ok_layout_of (D : Defs K mg base T) {g_insert : DRs} (C_insert : Cal P w K mg base T "insert" s_insert 1 ["probes", "rule", "layout", "key"] g_insert) {g_ : DRs} (ar : ∀ ds st Q, g_ ds st Q → ds.length = 3) (sem : ∀ ds st Q, g_ ds st Q → F_layout_of g_insert { nx := fun _ st' => Rt st Q .non st', rt := Rt st Q } (startD 5 ds) st) : Cal P w K mg base T "layout_of" s_layout_of 2 ["probes", "rule", "history"] g_ := by
  obtain ⟨f, fd, F, b, m⟩ := D.d_layout_of
  obtain ⟨f_insert, fd_insert, F_insert_, b_insert, g_insert_at, G_insert⟩ := C_insert
  obtain ⟨u_EMPTY, h_c_EMPTY, r_EMPTY⟩ := D.c_EMPTY
  exact ⟨f, fd, F, b, m, fnD_mk (k := 1) F sc_layout_of ar (fun cdv A outer s H E gd hr => (ds_cons (ds_set (i := 3) sc_layout_of.nd rfl (.inl rfl) (de_mul (de_tup (da_cons (de_globI (by rfl) h_c_EMPTY r_EMPTY) da_nil)) (de_callB call_len_seq callD_len (by rfl) D.z_len PySem.boot_len (da_cons (de_var (pv 1)) da_nil)))) (ds_cons (ds_for (vs := [4]) PassesOwn.never rfl (di_seq (de_var (pv 2))) (dg_name (i := 4) sc_layout_of.nd rfl (.inl rfl) (by decide)) (ds_one (ds_set (i := 3) sc_layout_of.nd rfl (.inl rfl) (de_ix (de_call G_insert gd (hr.mono (by omega)) (by rfl) g_insert_at F_insert_.kp b_insert (da_cons (de_var (pv 0)) (da_cons (de_var (pv 1)) (da_cons (de_var (pv 3)) (da_cons (de_var (pv 4)) da_nil))))) (de_int) (fun _ _ => rfl))))) (ds_one (ds_ret (de_var (pv 3))))))) sem⟩
theorem ok_ring_at (D : Defs K mg base T) {g_ : DRs} (ar : ∀ ds st Q, g_ ds st Q → ds.length = 2) (sem : ∀ ds st Q, g_ ds st Q → F_ring_at { nx := fun _ st' => Rt st Q .non st', rt := Rt st Q } (startD 6 ds) st) : Cal P w K mg base T "ring_at" s_ring_at 1 ["rule", "slot"] g_ := by
  obtain ⟨f, fd, F, b, m⟩ := D.d_ring_at
  exact ⟨f, fd, F, b, m, fnD_mk (k := 0) F sc_ring_at ar (fun cdv A outer s H E gd hr => (ds_cons (ds_set (i := 2) sc_ring_at.nd rfl (.inl rfl) (de_ix (de_var (pv 0)) (de_var (pv 1)) (fun _ _ => rfl))) (ds_cons (ds_for (vs := [3]) PassesOwn.never rfl (di_range1 (by rfl) D.z_range (da_cons (de_callB call_len_seq callD_len (by rfl) D.z_len PySem.boot_len (da_cons (de_var (pv 2)) da_nil)) da_nil)) (dg_name (i := 3) sc_ring_at.nd rfl (.inl rfl) (by decide)) (ds_one (ds_for (vs := [4]) PassesOwn.never rfl (di_seq (de_ix (de_var (pv 2)) (de_var (pv 3)) (fun _ _ => rfl))) (dg_name (i := 4) sc_ring_at.nd rfl (.inl rfl) (by decide)) (ds_one (ds_for (vs := [5]) PassesOwn.never rfl (di_seq (de_ix (de_var (pv 2)) (de_var (pv 4)) (fun _ _ => rfl))) (dg_name (i := 5) sc_ring_at.nd rfl (.inl rfl) (by decide)) (ds_one (ds_if (dt_cmpR op_in_seq (opD_in false) (de_var (pv 3)) (de_ix (de_var (pv 2)) (de_var (pv 5)) (fun _ _ => rfl)) (by rfl)) (ds_one (ds_ret (de_tup (da_cons (de_var (pv 3)) (da_cons (de_var (pv 4)) (da_cons (de_var (pv 5)) da_nil)))))) ds_nil))))))) (ds_one (ds_ret (de_non)))))) sem⟩
theorem ok_require_ordered (D : Defs K mg base T) {g_ring_at : DRs} (C_ring_at : Cal P w K mg base T "ring_at" s_ring_at 1 ["rule", "slot"] g_ring_at) {g_ : DRs} (ar : ∀ ds st Q, g_ ds st Q → ds.length = 1) (sem : ∀ ds st Q, g_ ds st Q → F_require_ordered g_ring_at { nx := fun _ st' => Rt st Q .non st', rt := Rt st Q } (startD 2 ds) st) : Cal P w K mg base T "require_ordered" s_require_ordered 2 ["rule"] g_ := by
  obtain ⟨f, fd, F, b, m⟩ := D.d_require_ordered
  obtain ⟨f_ring_at, fd_ring_at, F_ring_at_, b_ring_at, g_ring_at_at, G_ring_at⟩ := C_ring_at
  exact ⟨f, fd, F, b, m, fnD_mk (k := 1) F sc_require_ordered ar (fun cdv A outer s H E gd hr => (ds_one (ds_for (vs := [1]) PassesOwn.never rfl (di_range1 (by rfl) D.z_range (da_cons (de_callB call_len_seq callD_len (by rfl) D.z_len PySem.boot_len (da_cons (de_var (pv 0)) da_nil)) da_nil)) (dg_name (i := 1) sc_require_ordered.nd rfl (.inl rfl) (by decide)) (ds_one (ds_if (dt_notN (de_call G_ring_at gd (hr.mono (by omega)) (by rfl) g_ring_at_at F_ring_at_.kp b_ring_at (da_cons (de_var (pv 0)) (da_cons (de_var (pv 1)) da_nil)))) (ds_one ds_never) ds_nil))))) sem⟩
theorem ok_slots_ahead (D : Defs K mg base T) {g_ : DRs} (ar : ∀ ds st Q, g_ ds st Q → ds.length = 2) (sem : ∀ ds st Q, g_ ds st Q → F_slots_ahead { nx := fun _ st' => Rt st Q .non st', rt := Rt st Q } (startD 2 ds) st) : Cal P w K mg base T "slots_ahead" s_slots_ahead 1 ["order", "slot"] g_ := by
  obtain ⟨f, fd, F, b, m⟩ := D.d_slots_ahead
  exact ⟨f, fd, F, b, m, fnD_mk (k := 0) F sc_slots_ahead ar (fun cdv A outer s H E gd hr => (ds_one (ds_ret (de_slice (.inl rfl) (de_var (pv 0)) do_none (do_some (de_index (de_var (pv 0)) (da_cons (de_var (pv 1)) da_nil))))))) sem⟩
theorem ok_best (D : Defs K mg base T) {g_layout_of : DRs} (C_layout_of : Cal P w K mg base T "layout_of" s_layout_of 2 ["probes", "rule", "history"] g_layout_of) {g_require_ordered : DRs} (C_require_ordered : Cal P w K mg base T "require_ordered" s_require_ordered 2 ["rule"] g_require_ordered) {g_ : DRs} (ar : ∀ ds st Q, g_ ds st Q → ds.length = 3) (sem : ∀ ds st Q, g_ ds st Q → F_best g_layout_of g_require_ordered { nx := fun _ st' => Rt st Q .non st', rt := Rt st Q } (startD 3 ds) st) : Cal P w K mg base T "best" s_best 3 ["probes", "rule", "keys"] g_ := by
  obtain ⟨f, fd, F, b, m⟩ := D.d_best
  obtain ⟨f_layout_of, fd_layout_of, F_layout_of_, b_layout_of, g_layout_of_at, G_layout_of⟩ := C_layout_of
  obtain ⟨f_require_ordered, fd_require_ordered, F_require_ordered_, b_require_ordered, g_require_ordered_at, G_require_ordered⟩ := C_require_ordered
  exact ⟨f, fd, F, b, m, fnD_mk (k := 2) F sc_best ar (fun cdv A outer s H E gd hr => (ds_cons (ds_expr (de_call G_require_ordered gd (hr.mono (by omega)) (by rfl) g_require_ordered_at F_require_ordered_.kp b_require_ordered (da_cons (de_var (pv 1)) da_nil))) (ds_one (ds_ret (de_call G_layout_of gd (hr.mono (by omega)) (by rfl) g_layout_of_at F_layout_of_.kp b_layout_of (da_cons (de_var (pv 0)) (da_cons (de_var (pv 1)) (da_cons (de_var (pv 2)) da_nil)))))))) sem⟩
theorem ok_next_key (D : Defs K mg base T) {g_require_ordered : DRs} (C_require_ordered : Cal P w K mg base T "require_ordered" s_require_ordered 2 ["rule"] g_require_ordered) {g_key_behind : DRs} (C_key_behind : Cal P w K mg base T "key_behind" s_key_behind 5 ["probes", "rule", "layout", "slot"] g_key_behind) {g_ : DRs} (ar : ∀ ds st Q, g_ ds st Q → ds.length = 4) (sem : ∀ ds st Q, g_ ds st Q → F_next_key g_require_ordered g_key_behind { nx := fun _ st' => Rt st Q .non st', rt := Rt st Q } (startD 4 ds) st) : Cal P w K mg base T "next_key" s_next_key 6 ["probes", "rule", "layout", "slot"] g_ := by
  obtain ⟨f, fd, F, b, m⟩ := D.d_next_key
  obtain ⟨f_require_ordered, fd_require_ordered, F_require_ordered_, b_require_ordered, g_require_ordered_at, G_require_ordered⟩ := C_require_ordered
  obtain ⟨f_key_behind, fd_key_behind, F_key_behind_, b_key_behind, g_key_behind_at, G_key_behind⟩ := C_key_behind
  exact ⟨f, fd, F, b, m, fnD_mk (k := 5) F sc_next_key ar (fun cdv A outer s H E gd hr => (ds_cons (ds_expr (de_call G_require_ordered gd (hr.mono (by omega)) (by rfl) g_require_ordered_at F_require_ordered_.kp b_require_ordered (da_cons (de_var (pv 1)) da_nil))) (ds_one (ds_ret (de_call G_key_behind gd (hr.mono (by omega)) (by rfl) g_key_behind_at F_key_behind_.kp b_key_behind (da_cons (de_var (pv 0)) (da_cons (de_var (pv 1)) (da_cons (de_var (pv 2)) (da_cons (de_var (pv 3)) da_nil))))))))) sem⟩
theorem ok_key_behind (D : Defs K mg base T) {g_strongest_asking : DRs} (C_strongest_asking : Cal P w K mg base T "strongest_asking" s_strongest_asking 4 ["probes", "rule", "layout", "slot", "keys"] g_strongest_asking) {g_ : DRs} (ar : ∀ ds st Q, g_ ds st Q → ds.length = 4) (sem : ∀ ds st Q, g_ ds st Q → F_key_behind g_strongest_asking { nx := fun _ st' => Rt st Q .non st', rt := Rt st Q } (startD 6 ds) st) : Cal P w K mg base T "key_behind" s_key_behind 5 ["probes", "rule", "layout", "slot"] g_ := by
  obtain ⟨f, fd, F, b, m⟩ := D.d_key_behind
  obtain ⟨f_strongest_asking, fd_strongest_asking, F_strongest_asking_, b_strongest_asking, g_strongest_asking_at, G_strongest_asking⟩ := C_strongest_asking
  exact ⟨f, fd, F, b, m, fnD_mk (k := 4) F sc_key_behind ar (fun cdv A outer s H E gd hr => (ds_cons (ds_setLcG (i := 4) finT_ok rfl sc_key_behind.nd rfl rfl (sw_true rfl rfl rfl (by decide +kernel)) (di_seq (de_ix (de_ix (de_var (pv 1)) (de_var (pv 3)) (fun _ _ => rfl)) (de_ix (de_var (pv 2)) (de_var (pv 3)) (fun _ _ => rfl)) (fun _ _ => rfl))) (blkOk_by (own := [("key", 5)]) (N := n_key_behind) (sc := defScope s_key_behind) (by decide +kernel)) (fun _ _ _ _ _ => (dg_name (i := 5) sc_key_behind.nd rfl (.inl rfl) (by decide))) (fun _ _ _ _ _ => (dts_one (dt_cmpR op_in_seq (opD_in false) (de_var (pv 5)) (de_var (pv 2)) (by rfl)))) (fun _ _ _ _ _ => (de_var (pv 5)))) (ds_one (ds_ret (de_call G_strongest_asking gd (hr.mono (by omega)) (by rfl) g_strongest_asking_at F_strongest_asking_.kp b_strongest_asking (da_cons (de_var (pv 0)) (da_cons (de_var (pv 1)) (da_cons (de_var (pv 2)) (da_cons (de_var (pv 3)) (da_cons (de_var (pv 4)) da_nil)))))))))) sem⟩
set_option maxHeartbeats 0 in
theorem ok_strongest_asking (D : Defs K mg base T) {g_would_rather : DRs} (C_would_rather : Cal P w K mg base T "would_rather" s_would_rather 2 ["probes", "layout", "key", "slot"] g_would_rather) {g_ : DRs} (ar : ∀ ds st Q, g_ ds st Q → ds.length = 5) (sem : ∀ ds st Q, g_ ds st Q → F_strongest_asking g_would_rather { nx := fun _ st' => Rt st Q .non st', rt := Rt st Q } (startD 7 ds) st) : Cal P w K mg base T "strongest_asking" s_strongest_asking 4 ["probes", "rule", "layout", "slot", "keys"] g_ := by
  obtain ⟨f, fd, F, b, m, c, Pt, code, TB, hT, hT1⟩ := D.d_strongest_asking
  obtain ⟨f_would_rather, fd_would_rather, F_would_rather_, b_would_rather, g_would_rather_at, G_would_rather⟩ := C_would_rather
  obtain ⟨u_NO_KEY, h_c_NO_KEY, r_NO_KEY⟩ := D.c_NO_KEY
  exact ⟨f, fd, F, b, m, fnD_code (k := 3) F sc_strongest_asking ar (fun A outer s H E gd hr => (ds_cons (ds_setLcG (i := 5) finT_ok rfl sc_strongest_asking.nd rfl rfl (sw_true rfl rfl rfl (by decide +kernel)) (di_seq (de_var (pv 4))) (blkOk_by (own := [("key", 6)]) (N := n_strongest_asking) (sc := defScope s_strongest_asking) (by decide +kernel)) (fun _ _ _ _ _ => (dg_name (i := 6) sc_strongest_asking.nd rfl (.inl rfl) (by decide))) (fun _ _ _ _ _ => (dts_one (dt_val (de_call G_would_rather gd (hr.mono (by omega)) (by rfl) g_would_rather_at F_would_rather_.kp b_would_rather (da_cons (de_var (pv 0)) (da_cons (de_var (pv 2)) (da_cons (de_var (pv 6)) (da_cons (de_var (pv 3)) da_nil)))))))) (fun _ _ _ _ _ => (de_var (pv 6)))) (ds_one (ds_ret (de_maxKey (k := 0) (x := "key") rfl (by rfl) D.z_max (by rfl) h_c_NO_KEY r_NO_KEY (de_var (pv 5)) TB (by exact code) (by exact hT) (by exact hT1) (hr.mono (by omega)) (lamP_by (by show lamPB (defScope s_strongest_asking) _ _ = true; decide +kernel)) (nslots_by (js := [6]) (by show nslotsB n_strongest_asking "key" _ = true; decide +kernel)) rfl (fun _ _ _ _ _ _ => rfl) (fun A s H f c' _ => (dp_len (by rfl) D.z_len (dp_ix (dp_ix (dp_var (pv 1)) (dp_var (pv 3)) (fun _ _ => rfl)) (dp_var (pv 7)) (fun _ _ => rfl))))))))) sem⟩
theorem ok_would_rather (D : Defs K mg base T) {g_slots_ahead : DRs} (C_slots_ahead : Cal P w K mg base T "slots_ahead" s_slots_ahead 1 ["order", "slot"] g_slots_ahead) {g_ : DRs} (ar : ∀ ds st Q, g_ ds st Q → ds.length = 4) (sem : ∀ ds st Q, g_ ds st Q → F_would_rather g_slots_ahead { nx := fun _ st' => Rt st Q .non st', rt := Rt st Q } (startD 4 ds) st) : Cal P w K mg base T "would_rather" s_would_rather 2 ["probes", "layout", "key", "slot"] g_ := by
  obtain ⟨f, fd, F, b, m⟩ := D.d_would_rather
  obtain ⟨f_slots_ahead, fd_slots_ahead, F_slots_ahead_, b_slots_ahead, g_slots_ahead_at, G_slots_ahead⟩ := C_slots_ahead
  exact ⟨f, fd, F, b, m, fnD_mk (k := 1) F sc_would_rather ar (fun cdv A outer s H E gd hr => (ds_one (ds_ret (de_cmp op_in_seq (opD_in false) (de_var (pv 3)) (de_call G_slots_ahead gd (hr.mono (by omega)) (by rfl) g_slots_ahead_at F_slots_ahead_.kp b_slots_ahead (da_cons (de_ix (de_var (pv 0)) (de_var (pv 2)) (fun _ _ => rfl)) (da_cons (de_index (de_var (pv 1)) (da_cons (de_var (pv 2)) da_nil)) da_nil))) (by rfl))))) sem⟩
theorem ok_look_up (D : Defs K mg base T) {g_require_ordered : DRs} (C_require_ordered : Cal P w K mg base T "require_ordered" s_require_ordered 2 ["rule"] g_require_ordered) {g_ : DRs} (ar : ∀ ds st Q, g_ ds st Q → ds.length = 4) (sem : ∀ ds st Q, g_ ds st Q → F_look_up g_require_ordered { nx := fun _ st' => Rt st Q .non st', rt := Rt st Q } (startD 6 ds) st) : Cal P w K mg base T "look_up" s_look_up 3 ["probes", "rule", "layout", "key"] g_ := by
  obtain ⟨f, fd, F, b, m⟩ := D.d_look_up
  obtain ⟨f_require_ordered, fd_require_ordered, F_require_ordered_, b_require_ordered, g_require_ordered_at, G_require_ordered⟩ := C_require_ordered
  obtain ⟨u_EMPTY, h_c_EMPTY, r_EMPTY⟩ := D.c_EMPTY
  obtain ⟨u_NO_SLOT, h_c_NO_SLOT, r_NO_SLOT⟩ := D.c_NO_SLOT
  exact ⟨f, fd, F, b, m, fnD_mk (k := 2) F sc_look_up ar (fun cdv A outer s H E gd hr => (ds_cons (ds_expr (de_call G_require_ordered gd (hr.mono (by omega)) (by rfl) g_require_ordered_at F_require_ordered_.kp b_require_ordered (da_cons (de_var (pv 1)) da_nil))) (ds_cons (ds_for (vs := [4, 5]) PassesOwn.never rfl (di_enumK (k := 1) (by decide) (by rfl) D.z_enumerate (da_cons (de_ix (de_var (pv 0)) (de_var (pv 3)) (fun _ _ => rfl)) da_nil)) (dg_tup rfl (dgs_cons (dg_name (i := 4) sc_look_up.nd rfl (.inl rfl) (by decide)) (dgs_cons (dg_name (i := 5) sc_look_up.nd rfl (.inl rfl) (by decide)) dgs_nil))) (ds_cons (ds_if (dt_cmpR (op_eq2 hr.units) opD_eq (de_ix (de_var (pv 2)) (de_var (pv 5)) (fun _ _ => rfl)) (de_var (pv 3)) (nomark _)) (ds_one (ds_ret (de_tup (da_cons (de_var (pv 5)) (da_cons (de_var (pv 4)) da_nil))))) ds_nil) (ds_one (ds_if (PW.pt (dw_or (dt_cmpR (op_eq2 hr.units) opD_eq (de_ix (de_var (pv 2)) (de_var (pv 5)) (fun _ _ => rfl)) (de_globI (by rfl) h_c_EMPTY r_EMPTY) (nomark _)) (dw_or1 (dt_cmpR op_in_seq (opD_in false) (de_ix (de_var (pv 2)) (de_var (pv 5)) (fun _ _ => rfl)) (de_ix (de_ix (de_var (pv 1)) (de_var (pv 5)) (fun _ _ => rfl)) (de_var (pv 3)) (fun _ _ => rfl)) (by rfl))))) (ds_one (ds_ret (de_tup (da_cons (de_globI (by rfl) h_c_NO_SLOT r_NO_SLOT) (da_cons (de_var (pv 4)) da_nil))))) ds_nil)))) (ds_one (ds_ret (de_tup (da_cons (de_globI (by rfl) h_c_NO_SLOT r_NO_SLOT) (da_cons (de_callB call_len_seq callD_len (by rfl) D.z_len PySem.boot_len (da_cons (de_var (pv 2)) da_nil)) da_nil)))))))) sem⟩
theorem ok__law_pot_of (D : Defs K mg base T) {g_ : DRs} (ar : ∀ ds st Q, g_ ds st Q → ds.length = 2) (sem : ∀ ds st Q, g_ ds st Q → F__law_pot_of { nx := fun _ st' => Rt st Q .non st', rt := Rt st Q } (startD 4 ds) st) : Cal P w K mg base T "_law_pot_of" s__law_pot_of 1 ["_law_script", "_law_k"] g_ := by
  obtain ⟨f, fd, F, b, m⟩ := D.d__law_pot_of
  exact ⟨f, fd, F, b, m, fnD_mk (k := 0) F sc__law_pot_of ar (fun cdv A outer s H E gd hr => (ds_cons (ds_set (i := 2) sc__law_pot_of.nd rfl (.inl rfl) (de_if (dt_cmpR (op_ltG (Nat.lt_of_le_of_lt (Nat.le_add_right _ _) hr.units)) opD_ltG (de_var (pv 1)) (de_callB call_len_seq callD_len (by rfl) D.z_len PySem.boot_len (da_cons (de_var (pv 0)) da_nil)) (nomark _)) (de_ix (de_var (pv 0)) (de_var (pv 1)) (fun _ _ => rfl)) (de_add (de_mul (de_int) (de_var (pv 1))) (de_int)))) (ds_cons (ds_set (i := 3) sc__law_pot_of.nd rfl (.inl rfl) (de_mul (de_mod (de_callB call_abs callD_abs (by rfl) D.z_abs (by decide +kernel) (da_cons (de_var (pv 2)) da_nil)) (de_pow (de_pow (de_int) (de_int)) (de_int))) (de_callTy call_int1 callD_int (by rfl) D.z_int (by decide +kernel) (da_cons (de_cmp op_ge (opD_I0 fun _ _ _ _ => .bl _) (de_callB call_abs callD_abs (by rfl) D.z_abs (by decide +kernel) (da_cons (de_var (pv 2)) da_nil)) (de_pow (de_int) (de_int)) (nomark _)) da_nil)))) (ds_one (ds_ret (de_lstN (da_cons (de_var (pv 3)) (da_cons (de_mod (de_add (de_add (de_mul (de_mod (de_var (pv 2)) (de_int)) (de_int)) (de_mul (de_mul (de_int) (de_var (pv 1))) (de_var (pv 1)))) (de_int)) (de_int)) (da_cons (de_int) da_nil))))))))) sem⟩
theorem ok__law_take (D : Defs K mg base T) {g_ : DRs} (ar : ∀ ds st Q, g_ ds st Q → ds.length = 2) (sem : ∀ ds st Q, g_ ds st Q → F__law_take_v3 { nx := fun _ st' => Rt st Q .non st', rt := Rt st Q } (startD 5 ds) st) : Cal P w K mg base T "_law_take" s__law_take 1 ["_law_pot", "_law_upto"] g_ := by
  obtain ⟨f, fd, F, b, m⟩ := D.d__law_take
  exact ⟨f, fd, F, b, m, fnD_mk (k := 0) F sc__law_take ar (fun cdv A outer s H E gd hr => (ds_cons (ds_if (dt_cmpR op_gt (opD_I0 fun _ _ _ _ => .bl _) (de_ix (de_var (pv 0)) (de_int) (fun _ _ => rfl)) (de_int) (nomark _)) (ds_cons (ds_set (i := 2) sc__law_take.nd rfl (.inl rfl) (de_mod (de_ix (de_var (pv 0)) (de_int) (fun _ _ => rfl)) (de_var (pv 1)))) (ds_cons (ds_asg (vs := []) (de_div (de_ix (de_var (pv 0)) (de_int) (fun _ _ => rfl)) (de_var (pv 1))) (dg_sub (de_var (pv 0)) (de_int))) (ds_one (ds_ret (de_var (pv 2)))))) ds_nil) (ds_cons (ds_asg (vs := []) (de_add (de_ix (de_var (pv 0)) (de_int) (fun _ _ => rfl)) (de_int)) (dg_sub (de_var (pv 0)) (de_int))) (ds_cons (ds_set (i := 3) sc__law_take.nd rfl (.inl rfl) (de_ix (de_lst (da_cons (de_int) (da_cons (de_int) (da_cons (de_int) (da_cons (de_int) (da_cons (de_int) da_nil)))))) (de_mod (de_ix (de_var (pv 0)) (de_int) (fun _ _ => rfl)) (de_int)) (fun _ _ => rfl))) (ds_cons (ds_set (i := 4) sc__law_take.nd rfl (.inl rfl) (de_mod (de_pow (de_add (de_add (de_ix (de_var (pv 0)) (de_int) (fun _ _ => rfl)) (de_mul (de_mul (de_int) (de_ix (de_var (pv 0)) (de_int) (fun _ _ => rfl))) (de_ix (de_var (pv 0)) (de_int) (fun _ _ => rfl)))) (de_int)) (de_int)) (de_var (pv 3)))) (ds_one (ds_ret (de_mod (de_div (de_mod (de_mul (de_var (pv 4)) (de_add (de_mod (de_var (pv 4)) (de_int)) (de_mul (de_int) (de_ix (de_var (pv 0)) (de_int) (fun _ _ => rfl))))) (de_int)) (de_int)) (de_var (pv 1)))))))))) sem⟩
theorem ok__law_of (D : Defs K mg base T) {g__law_take : DRs} (C__law_take : Cal P w K mg base T "_law_take" s__law_take 1 ["_law_pot", "_law_upto"] g__law_take) {g_ : DRs} (ar : ∀ ds st Q, g_ ds st Q → ds.length = 2) (sem : ∀ ds st Q, g_ ds st Q → F__law_of g__law_take { nx := fun _ st' => Rt st Q .non st', rt := Rt st Q } (startD 2 ds) st) : Cal P w K mg base T "_law_of" s__law_of 2 ["_law_pot", "_law_some"] g_ := by
  obtain ⟨f, fd, F, b, m⟩ := D.d__law_of
  obtain ⟨f__law_take, fd__law_take, F__law_take_, b__law_take, g__law_take_at, G__law_take⟩ := C__law_take
  exact ⟨f, fd, F, b, m, fnD_mk (k := 1) F sc__law_of ar (fun cdv A outer s H E gd hr => (ds_one (ds_ret (de_ix (de_var (pv 1)) (de_call G__law_take gd (hr.mono (by omega)) (by rfl) g__law_take_at F__law_take_.kp b__law_take (da_cons (de_var (pv 0)) (da_cons (de_callB call_len_seq callD_len (by rfl) D.z_len PySem.boot_len (da_cons (de_var (pv 1)) da_nil)) da_nil))) (fun _ _ => rfl))))) sem⟩
theorem ok__law_shuffled (D : Defs K mg base T) {g__law_take : DRs} (C__law_take : Cal P w K mg base T "_law_take" s__law_take 1 ["_law_pot", "_law_upto"] g__law_take) {g_ : DRs} (ar : ∀ ds st Q, g_ ds st Q → ds.length = 2) (sem : ∀ ds st Q, g_ ds st Q → F__law_shuffled g__law_take { nx := fun _ st' => Rt st Q .non st', rt := Rt st Q } (startD 4 ds) st) : Cal P w K mg base T "_law_shuffled" s__law_shuffled 2 ["_law_pot", "_law_some"] g_ := by
  obtain ⟨f, fd, F, b, m⟩ := D.d__law_shuffled
  obtain ⟨f__law_take, fd__law_take, F__law_take_, b__law_take, g__law_take_at, G__law_take⟩ := C__law_take
  exact ⟨f, fd, F, b, m, fnD_mk (k := 1) F sc__law_shuffled ar (fun cdv A outer s H E gd hr => (ds_cons (ds_par (i := 2) (j := 3) rfl sc__law_shuffled.nd rfl rfl (by decide) rfl rfl (da_cons (de_callTy call_list_of callD_listN (by rfl) D.z_list (by decide +kernel) (da_cons (de_var (pv 1)) da_nil)) (da_cons (de_lstN da_nil) da_nil)) (by rfl)) (ds_cons (ds_while PassesOwn.never (dt_cmpR (op_ne2 hr.units) opD_ne (de_var (pv 2)) (de_lst da_nil) (nomark _)) (ds_one (ds_expr (de_bmL PySem.F.slot_list_append PySem.F.type_list_append mt_append mtD_append (de_var (pv 3)) (da_cons (de_bmL PySem.F.slot_list_pop PySem.F.type_list_pop mt_popAt mtD_popAt (de_var (pv 2)) (da_cons (de_call G__law_take gd (hr.mono (by omega)) (by rfl) g__law_take_at F__law_take_.kp b__law_take (da_cons (de_var (pv 0)) (da_cons (de_callB call_len_seq callD_len (by rfl) D.z_len PySem.boot_len (da_cons (de_var (pv 2)) da_nil)) da_nil))) da_nil)) da_nil))))) (ds_one (ds_ret (de_callTy call_tup2 callD_tup (by rfl) D.z_tuple (by decide +kernel) (da_cons (de_var (pv 3)) da_nil))))))) sem⟩
theorem ok__law_drawn_probes (D : Defs K mg base T) {g__law_take : DRs} (C__law_take : Cal P w K mg base T "_law_take" s__law_take 1 ["_law_pot", "_law_upto"] g__law_take) {g__law_shuffled : DRs} (C__law_shuffled : Cal P w K mg base T "_law_shuffled" s__law_shuffled 2 ["_law_pot", "_law_some"] g__law_shuffled) {g_ : DRs} (ar : ∀ ds st Q, g_ ds st Q → ds.length = 3) (sem : ∀ ds st Q, g_ ds st Q → F__law_drawn_probes g__law_take g__law_shuffled { nx := fun _ st' => Rt st Q .non st', rt := Rt st Q } (startD 10 ds) st) : Cal P w K mg base T "_law_drawn_probes" s__law_drawn_probes 3 ["_law_pot", "_law_keys", "_law_slots"] g_ := by
  obtain ⟨f, fd, F, b, m⟩ := D.d__law_drawn_probes
  obtain ⟨f__law_take, fd__law_take, F__law_take_, b__law_take, g__law_take_at, G__law_take⟩ := C__law_take
  obtain ⟨f__law_shuffled, fd__law_shuffled, F__law_shuffled_, b__law_shuffled, g__law_shuffled_at, G__law_shuffled⟩ := C__law_shuffled
  exact ⟨f, fd, F, b, m, fnD_mk (k := 2) F sc__law_drawn_probes ar (fun cdv A outer s H E gd hr => (ds_cons (ds_asg (vs := [3, 4, 5]) (de_tup (da_cons (de_call G__law_take gd (hr.mono (by omega)) (by rfl) g__law_take_at F__law_take_.kp b__law_take (da_cons (de_var (pv 0)) (da_cons (de_int) da_nil))) (da_cons (de_call G__law_shuffled gd (hr.mono (by omega)) (by rfl) g__law_shuffled_at F__law_shuffled_.kp b__law_shuffled (da_cons (de_var (pv 0)) (da_cons (de_listRg1 (.inl rfl) rfl (by rfl) D.z_list (by rfl) D.z_range (de_var (pv 2))) da_nil))) (da_cons (de_lstN da_nil) da_nil)))) (dg_tup rfl (dgs_cons (dg_name (i := 3) sc__law_drawn_probes.nd rfl (.inl rfl) (by decide)) (dgs_cons (dg_name (i := 4) sc__law_drawn_probes.nd rfl (.inr rfl) (by decide)) (dgs_cons (dg_name (i := 5) sc__law_drawn_probes.nd rfl (.inl rfl) (by decide)) dgs_nil))))) (ds_cons (ds_for (vs := [6]) PassesOwn.never rfl (di_range1 (by rfl) D.z_range (da_cons (de_var (pv 1)) da_nil)) (dg_name (i := 6) sc__law_drawn_probes.nd rfl (.inl rfl) (by decide)) (ds_cons (ds_set (i := 7) sc__law_drawn_probes.nd rfl (.inl rfl) (de_call G__law_shuffled gd (hr.mono (by omega)) (by rfl) g__law_shuffled_at F__law_shuffled_.kp b__law_shuffled (da_cons (de_var (pv 0)) (da_cons (de_listRg1 (.inl rfl) rfl (by rfl) D.z_list (by rfl) D.z_range (de_var (pv 2))) da_nil)))) (ds_cons (ds_if (dt_cmpR (op_eq2 hr.units) opD_eq (de_var (pv 3)) (de_int) (nomark _)) (ds_cons (ds_set (i := 8) sc__law_drawn_probes.nd rfl (.inl rfl) (de_call G__law_take gd (hr.mono (by omega)) (by rfl) g__law_take_at F__law_take_.kp b__law_take (da_cons (de_var (pv 0)) (da_cons (de_var (pv 2)) da_nil)))) (ds_one (ds_set (i := 7) sc__law_drawn_probes.nd rfl (.inl rfl) (de_add (de_slice (.inl rfl) (de_var (pv 4)) (do_some (de_var (pv 8))) do_none) (de_slice (.inl rfl) (de_var (pv 4)) do_none (do_some (de_var (pv 8)))))))) ds_nil) (ds_cons (ds_if (dt_cmpR (op_eq2 hr.units) opD_eq (de_var (pv 3)) (de_int) (nomark _)) (ds_one (ds_set (i := 7) sc__law_drawn_probes.nd rfl (.inl rfl) (de_add (de_slice (.inl rfl) (de_var (pv 4)) do_none (do_some (de_int))) (de_callTy call_tup2 callD_tup (by rfl) D.z_tuple (by decide +kernel) (da_cons (de_lcG (own := [("_law_slot", 9)]) finT_ok rfl sc__law_drawn_probes.nd (di_seq (de_var (pv 7))) (blkOk_by (own := [("_law_slot", 9)]) (N := n__law_drawn_probes) (sc := defScope s__law_drawn_probes) (by decide +kernel)) (fun _ _ _ _ _ => (dg_name (i := 9) sc__law_drawn_probes.nd rfl (.inl rfl) (by decide))) (fun _ _ _ _ _ => (dts_one (dt_cmpR (op_ne2 hr.units) opD_ne (de_var (pv 9)) (de_ix (de_var (pv 4)) (de_int) (fun _ _ => rfl)) (nomark _)))) (fun _ _ _ _ _ => (de_var (pv 9)))) da_nil))))) ds_nil) (ds_one (ds_expr (de_bmL PySem.F.slot_list_append PySem.F.type_list_append mt_append mtD_append (de_var (pv 5)) (da_cons (de_var (pv 7)) da_nil)))))))) (ds_one (ds_ret (de_callTy call_tup2 callD_tup (by rfl) D.z_tuple (by decide +kernel) (da_cons (de_var (pv 5)) da_nil))))))) sem⟩
theorem ok__law_drawn_orders (D : Defs K mg base T) {g__law_take : DRs} (C__law_take : Cal P w K mg base T "_law_take" s__law_take 1 ["_law_pot", "_law_upto"] g__law_take) {g__law_shuffled : DRs} (C__law_shuffled : Cal P w K mg base T "_law_shuffled" s__law_shuffled 2 ["_law_pot", "_law_some"] g__law_shuffled) {g_ : DRs} (ar : ∀ ds st Q, g_ ds st Q → ds.length = 2) (sem : ∀ ds st Q, g_ ds st Q → F__law_drawn_orders g__law_take g__law_shuffled { nx := fun _ st' => Rt st Q .non st', rt := Rt st Q } (startD 9 ds) st) : Cal P w K mg base T "_law_drawn_orders" s__law_drawn_orders 4 ["_law_pot", "_law_probes"] g_ := by
  obtain ⟨f, fd, F, b, m, c, Pt, code, TB, hT, hT1⟩ := D.d__law_drawn_orders
  obtain ⟨f__law_take, fd__law_take, F__law_take_, b__law_take, g__law_take_at, G__law_take⟩ := C__law_take
  obtain ⟨f__law_shuffled, fd__law_shuffled, F__law_shuffled_, b__law_shuffled, g__law_shuffled_at, G__law_shuffled⟩ := C__law_shuffled
  exact ⟨f, fd, F, b, m, fnD_code (k := 3) F sc__law_drawn_orders ar (fun A outer s H E gd hr => (ds_cons (ds_par3 (i := 2) (j := 3) (l := 4) rfl sc__law_drawn_orders.nd rfl rfl rfl (by decide) (by decide) (by decide) rfl rfl rfl (da_cons (de_callB call_len_seq callD_len (by rfl) D.z_len PySem.boot_len (da_cons (de_ix (de_var (pv 1)) (de_int) (fun _ _ => rfl)) da_nil)) (da_cons (de_call G__law_take gd (hr.mono (by omega)) (by rfl) g__law_take_at F__law_take_.kp b__law_take (da_cons (de_var (pv 0)) (da_cons (de_int) da_nil))) (da_cons (de_lstN da_nil) da_nil))) (by rfl)) (ds_cons (ds_for (vs := [8]) PassesOwn.never rfl (di_range1 (by rfl) D.z_range (da_cons (de_var (pv 2)) da_nil)) (dg_name (i := 8) sc__law_drawn_orders.nd rfl (.inr rfl) (by decide)) (ds_cons (ds_set (i := 5) sc__law_drawn_orders.nd rfl (.inl rfl) (de_call G__law_shuffled gd (hr.mono (by omega)) (by rfl) g__law_shuffled_at F__law_shuffled_.kp b__law_shuffled (da_cons (de_var (pv 0)) (da_cons (de_listRg1 (.inl rfl) rfl (by rfl) D.z_list (by rfl) D.z_range (de_callB call_len_seq callD_len (by rfl) D.z_len PySem.boot_len (da_cons (de_var (pv 1)) da_nil))) da_nil)))) (ds_cons (ds_if (dt_cmpR op_gt (opD_I0 fun _ _ _ _ => .bl _) (de_var (pv 3)) (de_int) (nomark _)) (ds_cons (ds_set (i := 5) sc__law_drawn_orders.nd rfl (.inl rfl) (de_callTy call_tup2 callD_tup (by rfl) D.z_tuple (by decide +kernel) (da_cons (de_sortS (.inl rfl) (k := 0) (x := "_law_one") rfl (by rfl) D.z_sorted (de_var (pv 5)) TB code hT hT1 (hr.mono (by omega)) (lamP_by (by show lamPB (defScope s__law_drawn_orders) _ _ = true; decide +kernel)) (by show ("_law_one" : Str) ∉ n__law_drawn_orders; decide +kernel) rfl (fun _ _ _ _ _ _ => rfl) (fun A s H f c' _ => (dp_tup2 (dp_neg (dp_index (dp_ix (dp_var (pv 1)) (dp_var (pv 9)) (fun _ _ => rfl)) (dp_var (pv 8)))) (dp_var (pv 9))))) da_nil))) (ds_cons (ds_set (i := 6) sc__law_drawn_orders.nd rfl (.inl rfl) (de_call G__law_take gd (hr.mono (by omega)) (by rfl) g__law_take_at F__law_take_.kp b__law_take (da_cons (de_var (pv 0)) (da_cons (de_callB call_len_seq callD_len (by rfl) D.z_len PySem.boot_len (da_cons (de_var (pv 5)) da_nil)) da_nil)))) (ds_cons (ds_set (i := 7) sc__law_drawn_orders.nd rfl (.inl rfl) (de_rev (de_slice (.inl rfl) (de_var (pv 5)) (do_some (de_var (pv 6))) (do_some (de_add (de_var (pv 6)) (de_var (pv 3))))))) (ds_one (ds_set (i := 5) sc__law_drawn_orders.nd rfl (.inl rfl) (de_add (de_add (de_slice (.inl rfl) (de_var (pv 5)) do_none (do_some (de_var (pv 6)))) (de_var (pv 7))) (de_slice (.inl rfl) (de_var (pv 5)) (do_some (de_add (de_var (pv 6)) (de_var (pv 3)))) do_none))))))) ds_nil) (ds_one (ds_expr (de_bmL PySem.F.slot_list_append PySem.F.type_list_append mt_append mtD_append (de_var (pv 4)) (da_cons (de_var (pv 5)) da_nil))))))) (ds_one (ds_ret (de_callTy call_tup2 callD_tup (by rfl) D.z_tuple (by decide +kernel) (da_cons (de_var (pv 4)) da_nil))))))) sem⟩
theorem ok__law_rule_of (D : Defs K mg base T) {g_ : DRs} (ar : ∀ ds st Q, g_ ds st Q → ds.length = 1) (sem : ∀ ds st Q, g_ ds st Q → F__law_rule_of { nx := fun _ st' => Rt st Q .non st', rt := Rt st Q } (startD 4 ds) st) : Cal P w K mg base T "_law_rule_of" s__law_rule_of 1 ["_law_orders"] g_ := by
  obtain ⟨f, fd, F, b, m⟩ := D.d__law_rule_of
  exact ⟨f, fd, F, b, m, fnD_mk (k := 0) F sc__law_rule_of ar (fun cdv A outer s H E gd hr => (ds_cons (ds_set (i := 1) sc__law_rule_of.nd rfl (.inl rfl) (de_lstN da_nil)) (ds_cons (ds_for (vs := [2]) PassesOwn.never rfl (di_seq (de_var (pv 0))) (dg_name (i := 2) sc__law_rule_of.nd rfl (.inr rfl) (by decide)) (ds_one (ds_expr (de_bmL PySem.F.slot_list_append PySem.F.type_list_append mt_append mtD_append (de_var (pv 1)) (da_cons (de_callTy call_tup2 callD_tup (by rfl) D.z_tuple (by decide +kernel) (da_cons (de_lcG (own := [("_law_item", 3)]) finT_ok rfl sc__law_rule_of.nd (di_range1 (by rfl) D.z_range (da_cons (de_callB call_len_seq callD_len (by rfl) D.z_len PySem.boot_len (da_cons (de_var (pv 2)) da_nil)) da_nil)) (blkOk_by (own := [("_law_item", 3)]) (N := n__law_rule_of) (sc := defScope s__law_rule_of) (by decide +kernel)) (fun _ _ _ _ _ => (dg_name (i := 3) sc__law_rule_of.nd rfl (.inl rfl) (by decide))) (fun _ _ _ _ _ => dts_nil) (fun _ _ _ _ _ => (de_callTy call_tup2 callD_tup (by rfl) D.z_tuple (by decide +kernel) (da_cons (de_callB call_sort2 (callD_sort (.inl rfl)) (by rfl) D.z_sorted (by decide +kernel) (da_cons (de_slice (.inl rfl) (de_var (pv 2)) (do_some (de_add (de_index (de_var (pv 2)) (da_cons (de_var (pv 3)) da_nil)) (de_int))) do_none) da_nil)) da_nil)))) da_nil)) da_nil))))) (ds_one (ds_ret (de_callTy call_tup2 callD_tup (by rfl) D.z_tuple (by decide +kernel) (da_cons (de_var (pv 1)) da_nil))))))) sem⟩
theorem ok__law_asked (D : Defs K mg base T) {g_ : DRs} (ar : ∀ ds st Q, g_ ds st Q → ds.length = 3) (sem : ∀ ds st Q, g_ ds st Q → F__law_asked { nx := fun _ st' => Rt st Q .non st', rt := Rt st Q } (startD 6 ds) st) : Cal P w K mg base T "_law_asked" s__law_asked 1 ["_law_probes", "_law_layout", "_law_spot"] g_ := by
  obtain ⟨f, fd, F, b, m⟩ := D.d__law_asked
  exact ⟨f, fd, F, b, m, fnD_mk (k := 0) F sc__law_asked ar (fun cdv A outer s H E gd hr => (ds_cons (ds_set (i := 3) sc__law_asked.nd rfl (.inl rfl) (de_lstN da_nil)) (ds_cons (ds_for (vs := [4, 5]) PassesOwn.never rfl (di_enum (by rfl) D.z_enumerate (da_cons (de_var (pv 1)) da_nil)) (dg_tup rfl (dgs_cons (dg_name (i := 4) sc__law_asked.nd rfl (.inl rfl) (by decide)) (dgs_cons (dg_name (i := 5) sc__law_asked.nd rfl (.inl rfl) (by decide)) dgs_nil))) (ds_one (ds_if (PW.pt (dw_and (dt_cmpR op_ge (opD_I0 fun _ _ _ _ => .bl _) (de_var (pv 5)) (de_int) (nomark _)) (dw_and1 (dt_cmpR op_le (opD_I0 fun _ _ _ _ => .bl _) (de_index (de_ix (de_var (pv 0)) (de_var (pv 5)) (fun _ _ => rfl)) (da_cons (de_var (pv 2)) da_nil)) (de_index (de_ix (de_var (pv 0)) (de_var (pv 5)) (fun _ _ => rfl)) (da_cons (de_var (pv 4)) da_nil)) (nomark _))))) (ds_one (ds_expr (de_bmL PySem.F.slot_list_append PySem.F.type_list_append mt_append mtD_append (de_var (pv 3)) (da_cons (de_var (pv 5)) da_nil)))) ds_nil))) (ds_one (ds_ret (de_var (pv 3))))))) sem⟩
theorem ok__law_other_probes (D : Defs K mg base T) {g__law_shuffled : DRs} (C__law_shuffled : Cal P w K mg base T "_law_shuffled" s__law_shuffled 2 ["_law_pot", "_law_some"] g__law_shuffled) {g_ : DRs} (ar : ∀ ds st Q, g_ ds st Q → ds.length = 3) (sem : ∀ ds st Q, g_ ds st Q → F__law_other_probes g__law_shuffled { nx := fun _ st' => Rt st Q .non st', rt := Rt st Q } (startD 7 ds) st) : Cal P w K mg base T "_law_other_probes" s__law_other_probes 3 ["_law_pot", "_law_probes", "_law_layout"] g_ := by
  obtain ⟨f, fd, F, b, m⟩ := D.d__law_other_probes
  obtain ⟨f__law_shuffled, fd__law_shuffled, F__law_shuffled_, b__law_shuffled, g__law_shuffled_at, G__law_shuffled⟩ := C__law_shuffled
  exact ⟨f, fd, F, b, m, fnD_mk (k := 2) F sc__law_other_probes ar (fun cdv A outer s H E gd hr => (ds_cons (ds_set (i := 3) sc__law_other_probes.nd rfl (.inl rfl) (de_lstN da_nil)) (ds_cons (ds_for (vs := [4, 5]) PassesOwn.never rfl (di_enum (by rfl) D.z_enumerate (da_cons (de_var (pv 1)) da_nil)) (dg_tup rfl (dgs_cons (dg_name (i := 4) sc__law_other_probes.nd rfl (.inl rfl) (by decide)) (dgs_cons (dg_name (i := 5) sc__law_other_probes.nd rfl (.inl rfl) (by decide)) dgs_nil))) (ds_cons (ds_set (i := 6) sc__law_other_probes.nd rfl (.inl rfl) (de_if (dt_cmpR op_in_seq (opD_in false) (de_var (pv 4)) (de_var (pv 2)) (by rfl)) (de_add (de_index (de_var (pv 5)) (da_cons (de_index (de_var (pv 2)) (da_cons (de_var (pv 4)) da_nil)) da_nil)) (de_int)) (de_int))) (ds_one (ds_expr (de_bmL PySem.F.slot_list_append PySem.F.type_list_append mt_append mtD_append (de_var (pv 3)) (da_cons (de_add (de_slice (.inl rfl) (de_var (pv 5)) do_none (do_some (de_var (pv 6)))) (de_call G__law_shuffled gd (hr.mono (by omega)) (by rfl) g__law_shuffled_at F__law_shuffled_.kp b__law_shuffled (da_cons (de_var (pv 0)) (da_cons (de_slice (.inl rfl) (de_var (pv 5)) (do_some (de_var (pv 6))) do_none) da_nil)))) da_nil)))))) (ds_one (ds_ret (de_callTy call_tup2 callD_tup (by rfl) D.z_tuple (by decide +kernel) (da_cons (de_var (pv 3)) da_nil))))))) sem⟩
theorem ok__law_other_order (D : Defs K mg base T) {g__law_take : DRs} (C__law_take : Cal P w K mg base T "_law_take" s__law_take 1 ["_law_pot", "_law_upto"] g__law_take) {g_ : DRs} (ar : ∀ ds st Q, g_ ds st Q → ds.length = 3) (sem : ∀ ds st Q, g_ ds st Q → F__law_other_order g__law_take { nx := fun _ st' => Rt st Q .non st', rt := Rt st Q } (startD 5 ds) st) : Cal P w K mg base T "_law_other_order" s__law_other_order 2 ["_law_pot", "_law_order", "_law_asked_here"] g_ := by
  obtain ⟨f, fd, F, b, m⟩ := D.d__law_other_order
  obtain ⟨f__law_take, fd__law_take, F__law_take_, b__law_take, g__law_take_at, G__law_take⟩ := C__law_take
  exact ⟨f, fd, F, b, m, fnD_mk (k := 1) F sc__law_other_order ar (fun cdv A outer s H E gd hr => (ds_cons (ds_setLcG (i := 4) finN_ok rfl sc__law_other_order.nd rfl rfl (sw_true rfl rfl rfl (by decide +kernel)) (di_seq (de_var (pv 1))) (blkOk_by (own := [("_law_item", 3)]) (N := n__law_other_order) (sc := defScope s__law_other_order) (by decide +kernel)) (fun _ _ _ _ _ => (dg_name (i := 3) sc__law_other_order.nd rfl (.inl rfl) (by decide))) (fun _ _ _ _ _ => (dts_one (dt_cmpR op_in_seq (opD_in false) (de_var (pv 3)) (de_var (pv 2)) (by rfl)))) (fun _ _ _ _ _ => (de_var (pv 3)))) (ds_cons (ds_for (vs := [3]) PassesOwn.never rfl (di_seq (de_var (pv 1))) (dg_name (i := 3) sc__law_other_order.nd rfl (.inl rfl) (by decide)) (ds_one (ds_if (dt_cmpR op_notIn_seq (opD_in true) (de_var (pv 3)) (de_var (pv 2)) (by rfl)) (ds_one (ds_expr (de_bmL PySem.F.slot_list_insert PySem.F.type_list_insert mt_insert mtD_insert (de_var (pv 4)) (da_cons (de_call G__law_take gd (hr.mono (by omega)) (by rfl) g__law_take_at F__law_take_.kp b__law_take (da_cons (de_var (pv 0)) (da_cons (de_add (de_callB call_len_seq callD_len (by rfl) D.z_len PySem.boot_len (da_cons (de_var (pv 4)) da_nil)) (de_int)) da_nil))) (da_cons (de_var (pv 3)) da_nil))))) ds_nil))) (ds_one (ds_ret (de_callTy call_tup2 callD_tup (by rfl) D.z_tuple (by decide +kernel) (da_cons (de_var (pv 4)) da_nil))))))) sem⟩
theorem ok__law_paths (D : Defs K mg base T) {g_insert : DRs} (C_insert : Cal P w K mg base T "insert" s_insert 1 ["probes", "rule", "layout", "key"] g_insert) {g_ : DRs} (ar : ∀ ds st Q, g_ ds st Q → ds.length = 3) (sem : ∀ ds st Q, g_ ds st Q → F__law_paths g_insert { nx := fun _ st' => Rt st Q .non st', rt := Rt st Q } (startD 7 ds) st) : Cal P w K mg base T "_law_paths" s__law_paths 2 ["_law_probes", "_law_rule", "_law_history"] g_ := by
  obtain ⟨f, fd, F, b, m⟩ := D.d__law_paths
  obtain ⟨f_insert, fd_insert, F_insert_, b_insert, g_insert_at, G_insert⟩ := C_insert
  exact ⟨f, fd, F, b, m, fnD_mk (k := 1) F sc__law_paths ar (fun cdv A outer s H E gd hr => (ds_cons (ds_par (i := 3) (j := 4) rfl sc__law_paths.nd rfl rfl (by decide) rfl rfl (da_cons (de_mul (de_tup (da_cons (de_neg (de_int)) da_nil)) (de_callB call_len_seq callD_len (by rfl) D.z_len PySem.boot_len (da_cons (de_var (pv 1)) da_nil))) (da_cons (de_lstN da_nil) da_nil)) (by rfl)) (ds_cons (ds_for (vs := [5]) PassesOwn.never rfl (di_seq (de_var (pv 2))) (dg_name (i := 5) sc__law_paths.nd rfl (.inl rfl) (by decide)) (ds_cons (ds_asg (vs := [3, 6]) (de_call G_insert gd (hr.mono (by omega)) (by rfl) g_insert_at F_insert_.kp b_insert (da_cons (de_var (pv 0)) (da_cons (de_var (pv 1)) (da_cons (de_var (pv 3)) (da_cons (de_var (pv 5)) da_nil))))) (dg_tup rfl (dgs_cons (dg_name (i := 3) sc__law_paths.nd rfl (.inl rfl) (by decide)) (dgs_cons (dg_name (i := 6) sc__law_paths.nd rfl (.inl rfl) (by decide)) dgs_nil)))) (ds_one (ds_expr (de_bmL PySem.F.slot_list_append PySem.F.type_list_append mt_append mtD_append (de_var (pv 4)) (da_cons (de_var (pv 6)) da_nil)))))) (ds_one (ds_ret (de_tup (da_cons (de_var (pv 3)) (da_cons (de_var (pv 4)) da_nil)))))))) sem⟩
set_option maxHeartbeats 0 in
theorem ok__law_right (D : Defs K mg base T) {g_layout_of : DRs} (C_layout_of : Cal P w K mg base T "layout_of" s_layout_of 2 ["probes", "rule", "history"] g_layout_of) {g_best : DRs} (C_best : Cal P w K mg base T "best" s_best 3 ["probes", "rule", "keys"] g_best) {g_next_key : DRs} (C_next_key : Cal P w K mg base T "next_key" s_next_key 6 ["probes", "rule", "layout", "slot"] g_next_key) {g_look_up : DRs} (C_look_up : Cal P w K mg base T "look_up" s_look_up 3 ["probes", "rule", "layout", "key"] g_look_up) {g__law_take : DRs} (C__law_take : Cal P w K mg base T "_law_take" s__law_take 1 ["_law_pot", "_law_upto"] g__law_take) {g__law_of : DRs} (C__law_of : Cal P w K mg base T "_law_of" s__law_of 2 ["_law_pot", "_law_some"] g__law_of) {g__law_shuffled : DRs} (C__law_shuffled : Cal P w K mg base T "_law_shuffled" s__law_shuffled 2 ["_law_pot", "_law_some"] g__law_shuffled) {g__law_drawn_probes : DRs} (C__law_drawn_probes : Cal P w K mg base T "_law_drawn_probes" s__law_drawn_probes 3 ["_law_pot", "_law_keys", "_law_slots"] g__law_drawn_probes) {g__law_drawn_orders : DRs} (C__law_drawn_orders : Cal P w K mg base T "_law_drawn_orders" s__law_drawn_orders 4 ["_law_pot", "_law_probes"] g__law_drawn_orders) {g__law_rule_of : DRs} (C__law_rule_of : Cal P w K mg base T "_law_rule_of" s__law_rule_of 1 ["_law_orders"] g__law_rule_of) {g__law_asked : DRs} (C__law_asked : Cal P w K mg base T "_law_asked" s__law_asked 1 ["_law_probes", "_law_layout", "_law_spot"] g__law_asked) {g__law_other_probes : DRs} (C__law_other_probes : Cal P w K mg base T "_law_other_probes" s__law_other_probes 3 ["_law_pot", "_law_probes", "_law_layout"] g__law_other_probes) {g__law_other_order : DRs} (C__law_other_order : Cal P w K mg base T "_law_other_order" s__law_other_order 2 ["_law_pot", "_law_order", "_law_asked_here"] g__law_other_order) {g__law_paths : DRs} (C__law_paths : Cal P w K mg base T "_law_paths" s__law_paths 2 ["_law_probes", "_law_rule", "_law_history"] g__law_paths) {g_ : DRs} (ar : ∀ ds st Q, g_ ds st Q → ds.length = 1) (sem : ∀ ds st Q, g_ ds st Q → F__law_right_v27 g_layout_of g_best g_next_key g_look_up g__law_take g__law_of g__law_shuffled g__law_drawn_probes g__law_drawn_orders g__law_rule_of g__law_asked g__law_other_probes g__law_other_order g__law_paths { nx := fun _ st' => Rt st Q .non st', rt := Rt st Q } (startD 17 ds) st) : Cal P w K mg base T "_law_right" s__law_right 7 ["_law_pot"] g_ := by
  obtain ⟨f, fd, F, b, m⟩ := D.d__law_right
  obtain ⟨f_layout_of, fd_layout_of, F_layout_of_, b_layout_of, g_layout_of_at, G_layout_of⟩ := C_layout_of
  obtain ⟨f_best, fd_best, F_best_, b_best, g_best_at, G_best⟩ := C_best
  obtain ⟨f_next_key, fd_next_key, F_next_key_, b_next_key, g_next_key_at, G_next_key⟩ := C_next_key
  obtain ⟨f_look_up, fd_look_up, F_look_up_, b_look_up, g_look_up_at, G_look_up⟩ := C_look_up
  obtain ⟨f__law_take, fd__law_take, F__law_take_, b__law_take, g__law_take_at, G__law_take⟩ := C__law_take
  obtain ⟨f__law_of, fd__law_of, F__law_of_, b__law_of, g__law_of_at, G__law_of⟩ := C__law_of
  obtain ⟨f__law_shuffled, fd__law_shuffled, F__law_shuffled_, b__law_shuffled, g__law_shuffled_at, G__law_shuffled⟩ := C__law_shuffled
  obtain ⟨f__law_drawn_probes, fd__law_drawn_probes, F__law_drawn_probes_, b__law_drawn_probes, g__law_drawn_probes_at, G__law_drawn_probes⟩ := C__law_drawn_probes
  obtain ⟨f__law_drawn_orders, fd__law_drawn_orders, F__law_drawn_orders_, b__law_drawn_orders, g__law_drawn_orders_at, G__law_drawn_orders⟩ := C__law_drawn_orders
  obtain ⟨f__law_rule_of, fd__law_rule_of, F__law_rule_of_, b__law_rule_of, g__law_rule_of_at, G__law_rule_of⟩ := C__law_rule_of
  obtain ⟨f__law_asked, fd__law_asked, F__law_asked_, b__law_asked, g__law_asked_at, G__law_asked⟩ := C__law_asked
  obtain ⟨f__law_other_probes, fd__law_other_probes, F__law_other_probes_, b__law_other_probes, g__law_other_probes_at, G__law_other_probes⟩ := C__law_other_probes
  obtain ⟨f__law_other_order, fd__law_other_order, F__law_other_order_, b__law_other_order, g__law_other_order_at, G__law_other_order⟩ := C__law_other_order
  obtain ⟨f__law_paths, fd__law_paths, F__law_paths_, b__law_paths, g__law_paths_at, G__law_paths⟩ := C__law_paths
  exact ⟨f, fd, F, b, m, fnD_mk (k := 6) F sc__law_right ar (fun cdv A outer s H E gd hr => (ds_cons (ds_asg (vs := [1, 2]) (de_call G__law_of gd (hr.mono (by omega)) (by rfl) g__law_of_at F__law_of_.kp b__law_of (da_cons (de_var (pv 0)) (da_cons (de_lst (da_cons (de_tup (da_cons (de_int) (da_cons (de_int) da_nil))) (da_cons (de_tup (da_cons (de_int) (da_cons (de_int) da_nil))) (da_cons (de_tup (da_cons (de_int) (da_cons (de_int) da_nil))) (da_cons (de_tup (da_cons (de_int) (da_cons (de_int) da_nil))) (da_cons (de_tup (da_cons (de_int) (da_cons (de_int) da_nil))) (da_cons (de_tup (da_cons (de_int) (da_cons (de_int) da_nil))) (da_cons (de_tup (da_cons (de_int) (da_cons (de_int) da_nil))) da_nil)))))))) da_nil))) (dg_tup rfl (dgs_cons (dg_name (i := 1) sc__law_right.nd rfl (.inl rfl) (by decide)) (dgs_cons (dg_name (i := 2) sc__law_right.nd rfl (.inl rfl) (by decide)) dgs_nil)))) (ds_cons (ds_set (i := 3) sc__law_right.nd rfl (.inl rfl) (de_call G__law_drawn_probes gd (hr.mono (by omega)) (by rfl) g__law_drawn_probes_at F__law_drawn_probes_.kp b__law_drawn_probes (da_cons (de_var (pv 0)) (da_cons (de_var (pv 1)) (da_cons (de_var (pv 2)) da_nil))))) (ds_cons (ds_set (i := 4) sc__law_right.nd rfl (.inl rfl) (de_call G__law_drawn_orders gd (hr.mono (by omega)) (by rfl) g__law_drawn_orders_at F__law_drawn_orders_.kp b__law_drawn_orders (da_cons (de_var (pv 0)) (da_cons (de_var (pv 3)) da_nil)))) (ds_cons (ds_par (i := 5) (j := 6) rfl sc__law_right.nd rfl rfl (by decide) rfl rfl (da_cons (de_call G__law_rule_of gd (hr.mono (by omega)) (by rfl) g__law_rule_of_at F__law_rule_of_.kp b__law_rule_of (da_cons (de_var (pv 4)) da_nil)) (da_cons (de_slice (.inl rfl) (de_call G__law_shuffled gd (hr.mono (by omega)) (by rfl) g__law_shuffled_at F__law_shuffled_.kp b__law_shuffled (da_cons (de_var (pv 0)) (da_cons (de_listRg1 (.inl rfl) rfl (by rfl) D.z_list (by rfl) D.z_range (de_var (pv 1))) da_nil))) do_none (do_some (de_add (de_int) (de_call G__law_take gd (hr.mono (by omega)) (by rfl) g__law_take_at F__law_take_.kp b__law_take (da_cons (de_var (pv 0)) (da_cons (de_callB (call_min2 rfl) callD_2I (by rfl) D.z_min (by decide +kernel) (da_cons (de_var (pv 1)) (da_cons (de_var (pv 2)) da_nil))) da_nil)))))) da_nil)) (by rfl)) (ds_cons (ds_set (i := 7) sc__law_right.nd rfl (.inl rfl) (de_call G_layout_of gd (hr.mono (by omega)) (by rfl) g_layout_of_at F_layout_of_.kp b_layout_of (da_cons (de_var (pv 3)) (da_cons (de_var (pv 5)) (da_cons (de_var (pv 6)) da_nil))))) (ds_cons (ds_set (i := 8) sc__law_right.nd rfl (.inl rfl) (de_lstN da_nil)) (ds_cons (ds_for (vs := [9, 10]) PassesOwn.never rfl (di_enum (by rfl) D.z_enumerate (da_cons (de_var (pv 4)) da_nil)) (dg_tup rfl (dgs_cons (dg_name (i := 9) sc__law_right.nd rfl (.inl rfl) (by decide)) (dgs_cons (dg_name (i := 10) sc__law_right.nd rfl (.inl rfl) (by decide)) dgs_nil))) (ds_one (ds_expr (de_bmL PySem.F.slot_list_append PySem.F.type_list_append mt_append mtD_append (de_var (pv 8)) (da_cons (de_call G__law_other_order gd (hr.mono (by omega)) (by rfl) g__law_other_order_at F__law_other_order_.kp b__law_other_order (da_cons (de_var (pv 0)) (da_cons (de_var (pv 10)) (da_cons (de_call G__law_asked gd (hr.mono (by omega)) (by rfl) g__law_asked_at F__law_asked_.kp b__law_asked (da_cons (de_var (pv 3)) (da_cons (de_var (pv 7)) (da_cons (de_var (pv 9)) da_nil)))) da_nil)))) da_nil))))) (ds_cons (ds_par (i := 11) (j := 12) rfl sc__law_right.nd rfl rfl (by decide) rfl rfl (da_cons (de_call G__law_other_probes gd (hr.mono (by omega)) (by rfl) g__law_other_probes_at F__law_other_probes_.kp b__law_other_probes (da_cons (de_var (pv 0)) (da_cons (de_var (pv 3)) (da_cons (de_var (pv 7)) da_nil)))) (da_cons (de_call G__law_rule_of gd (hr.mono (by omega)) (by rfl) g__law_rule_of_at F__law_rule_of_.kp b__law_rule_of (da_cons (de_callTy call_tup2 callD_tup (by rfl) D.z_tuple (by decide +kernel) (da_cons (de_var (pv 8)) da_nil)) da_nil)) da_nil)) (by rfl)) (ds_cons (ds_if (dt_cmpR (op_ne2 hr.units) opD_ne (de_call G__law_paths gd (hr.mono (by omega)) (by rfl) g__law_paths_at F__law_paths_.kp b__law_paths (da_cons (de_var (pv 11)) (da_cons (de_var (pv 12)) (da_cons (de_var (pv 6)) da_nil)))) (de_call G__law_paths gd (hr.mono (by omega)) (by rfl) g__law_paths_at F__law_paths_.kp b__law_paths (da_cons (de_var (pv 3)) (da_cons (de_var (pv 5)) (da_cons (de_var (pv 6)) da_nil)))) (nomark _)) (ds_one (ds_ret (de_bl))) ds_nil) (ds_cons (ds_par (i := 13) (j := 14) rfl sc__law_right.nd rfl rfl (by decide) rfl rfl (da_cons (de_call G__law_shuffled gd (hr.mono (by omega)) (by rfl) g__law_shuffled_at F__law_shuffled_.kp b__law_shuffled (da_cons (de_var (pv 0)) (da_cons (de_var (pv 6)) da_nil))) (da_cons (de_callTy call_tup2 callD_tup (by rfl) D.z_tuple (by decide +kernel) (da_cons (de_callB call_sort2 (callD_sort (.inl rfl)) (by rfl) D.z_sorted (by decide +kernel) (da_cons (de_var (pv 6)) da_nil)) da_nil)) da_nil)) (by rfl)) (ds_cons (ds_if (PW.pt (dw_or (dt_cmpR (op_ne2 hr.units) opD_ne (de_call G_layout_of gd (hr.mono (by omega)) (by rfl) g_layout_of_at F_layout_of_.kp b_layout_of (da_cons (de_var (pv 11)) (da_cons (de_var (pv 12)) (da_cons (de_var (pv 13)) da_nil)))) (de_var (pv 7)) (nomark _)) (dw_or1 (dt_cmpR (op_ne2 hr.units) opD_ne (de_call G_best gd (hr.mono (by omega)) (by rfl) g_best_at F_best_.kp b_best (da_cons (de_var (pv 11)) (da_cons (de_var (pv 12)) (da_cons (de_var (pv 14)) da_nil)))) (de_var (pv 7)) (nomark _))))) (ds_one (ds_ret (de_bl))) ds_nil) (ds_cons (ds_for (vs := [15]) PassesOwn.never rfl (di_seq (de_var (pv 6))) (dg_name (i := 15) sc__law_right.nd rfl (.inl rfl) (by decide)) (ds_one (ds_if (dt_cmpR (op_ne2 hr.units) opD_ne (de_call G_look_up gd (hr.mono (by omega)) (by rfl) g_look_up_at F_look_up_.kp b_look_up (da_cons (de_var (pv 11)) (da_cons (de_var (pv 12)) (da_cons (de_var (pv 7)) (da_cons (de_var (pv 15)) da_nil))))) (de_call G_look_up gd (hr.mono (by omega)) (by rfl) g_look_up_at F_look_up_.kp b_look_up (da_cons (de_var (pv 3)) (da_cons (de_var (pv 5)) (da_cons (de_var (pv 7)) (da_cons (de_var (pv 15)) da_nil))))) (nomark _)) (ds_one (ds_ret (de_bl))) ds_nil))) (ds_cons (ds_for (vs := [9]) PassesOwn.never rfl (di_range1 (by rfl) D.z_range (da_cons (de_var (pv 2)) da_nil)) (dg_name (i := 9) sc__law_right.nd rfl (.inl rfl) (by decide)) (ds_one (ds_if (dt_cmpR op_ge (opD_I0 fun _ _ _ _ => .bl _) (de_ix (de_var (pv 7)) (de_var (pv 9)) (fun _ _ => rfl)) (de_int) (nomark _)) (ds_cons (ds_set (i := 16) sc__law_right.nd rfl (.inl rfl) (de_call G_next_key gd (hr.mono (by omega)) (by rfl) g_next_key_at F_next_key_.kp b_next_key (da_cons (de_var (pv 3)) (da_cons (de_var (pv 5)) (da_cons (de_var (pv 7)) (da_cons (de_var (pv 9)) da_nil)))))) (ds_cons (ds_if (dt_cmpR (op_ne2 hr.units) opD_ne (de_var (pv 16)) (de_call G_next_key gd (hr.mono (by omega)) (by rfl) g_next_key_at F_next_key_.kp b_next_key (da_cons (de_var (pv 11)) (da_cons (de_var (pv 12)) (da_cons (de_var (pv 7)) (da_cons (de_var (pv 9)) da_nil))))) (nomark _)) (ds_one (ds_ret (de_bl))) ds_nil) (ds_one (ds_if (PW.pt (dw_and (dt_cmpR op_ge (opD_I0 fun _ _ _ _ => .bl _) (de_var (pv 16)) (de_int) (nomark _)) (dw_and1 (dt_cmpR op_notIn_seq (opD_in true) (de_var (pv 16)) (de_call G__law_asked gd (hr.mono (by omega)) (by rfl) g__law_asked_at F__law_asked_.kp b__law_asked (da_cons (de_var (pv 3)) (da_cons (de_var (pv 7)) (da_cons (de_var (pv 9)) da_nil)))) (by rfl))))) (ds_one (ds_ret (de_bl))) ds_nil)))) ds_nil))) (ds_one (ds_ret (de_bl))))))))))))))))) sem⟩
theorem ok_law (D : Defs K mg base T) {g__law_pot_of : DRs} (C__law_pot_of : Cal P w K mg base T "_law_pot_of" s__law_pot_of 1 ["_law_script", "_law_k"] g__law_pot_of) {g__law_right : DRs} (C__law_right : Cal P w K mg base T "_law_right" s__law_right 7 ["_law_pot"] g__law_right) {g_ : DRs} (ar : ∀ ds st Q, g_ ds st Q → ds.length = 1) (sem : ∀ ds st Q, g_ ds st Q → F_law_v10 g__law_pot_of g__law_right { nx := fun _ st' => Rt st Q .non st', rt := Rt st Q } (startD 4 ds) st) : Cal P w K mg base T "law" s_law 8 ["_law_script"] g_ := by
  obtain ⟨f, fd, F, b, m⟩ := D.d_law
  obtain ⟨f__law_pot_of, fd__law_pot_of, F__law_pot_of_, b__law_pot_of, g__law_pot_of_at, G__law_pot_of⟩ := C__law_pot_of
  obtain ⟨f__law_right, fd__law_right, F__law_right_, b__law_right, g__law_right_at, G__law_right⟩ := C__law_right
  exact ⟨f, fd, F, b, m, fnD_mk (k := 7) F sc_law ar (fun cdv A outer s H E gd hr => (ds_cons (ds_for (vs := [1]) PassesOwn.never rfl (di_range1 (by rfl) D.z_range (da_cons (de_callB (call_max2 rfl) callD_2I (by rfl) D.z_max (by decide +kernel) (da_cons (de_int) (da_cons (de_callB (call_min2 rfl) callD_2I (by rfl) D.z_min (by decide +kernel) (da_cons (de_int) (da_cons (de_callB call_len_seq callD_len (by rfl) D.z_len PySem.boot_len (da_cons (de_var (pv 0)) da_nil)) da_nil))) da_nil))) da_nil)) (dg_name (i := 1) sc_law.nd rfl (.inl rfl) (by decide)) (ds_cons (ds_set (i := 2) sc_law.nd rfl (.inr rfl) (de_call G__law_pot_of gd (hr.mono (by omega)) (by rfl) g__law_pot_of_at F__law_pot_of_.kp b__law_pot_of (da_cons (de_var (pv 0)) (da_cons (de_var (pv 1)) da_nil)))) (ds_one (ds_if (dt_not (dt_val (de_callB (cr_all rfl) (callD_all _) (by rfl) D.z_all (by decide +kernel) (da_cons (de_lcG (own := [("_law_turn", 3)]) finT_ok rfl sc_law.nd (di_range1 (by rfl) D.z_range (da_cons (de_int) da_nil)) (blkOk_by (own := [("_law_turn", 3)]) (N := n_law) (sc := defScope s_law) (by decide +kernel)) (fun _ _ _ _ _ => (dg_name (i := 3) sc_law.nd rfl (.inl rfl) (by decide))) (fun _ _ _ _ _ => dts_nil) (fun _ _ _ _ _ => (de_call G__law_right gd (hr.mono (by omega)) (by rfl) g__law_right_at F__law_right_.kp b__law_right (da_cons (de_var (pv 2)) da_nil)))) da_nil)))) (ds_one (ds_ret (de_bl))) ds_nil)))) (ds_one (ds_ret (de_bl))))) sem⟩
end
section
variable {P : Program} {w : World} {K : Frag} {mg : Str → Option Value} {base : Heap} {T : List (Addr × Str)}
theorem law_ok (D : Defs K mg base T) : Cal P w K mg base T "law" s_law 8 ["_law_script"] g_law := by
  have C__law_pot_of := ok__law_pot_of (P := P) (w := w) D ar_pot sem_potA
  have C_insert := ok_insert (P := P) (w := w) D ar_insert sem_insert
  have C_layout_of := ok_layout_of (P := P) (w := w) D C_insert ar_layout sem_layout
  have C_ring_at := ok_ring_at (P := P) (w := w) D ar_ring sem_ring
  have C_require_ordered := ok_require_ordered (P := P) (w := w) D C_ring_at ar_reqO sem_reqO
  have C_best := ok_best (P := P) (w := w) D C_layout_of C_require_ordered ar_best sem_best
  have C_slots_ahead := ok_slots_ahead (P := P) (w := w) D ar_ahead sem_ahead
  have C_would_rather := ok_would_rather (P := P) (w := w) D C_slots_ahead ar_would sem_would
  have C_strongest_asking := ok_strongest_asking (P := P) (w := w) D C_would_rather ar_strongK sem_strongK
  have C_key_behind := ok_key_behind (P := P) (w := w) D C_strongest_asking ar_behind sem_behind
  have C_next_key := ok_next_key (P := P) (w := w) D C_require_ordered C_key_behind ar_next sem_next
  have C_look_up := ok_look_up (P := P) (w := w) D C_require_ordered ar_look sem_look
  have C__law_take := ok__law_take (P := P) (w := w) D ar_take sem_takeA
  have C__law_of := ok__law_of (P := P) (w := w) D C__law_take ar_pick sem_pickA
  have C__law_shuffled := ok__law_shuffled (P := P) (w := w) D C__law_take ar_shuf sem_shuf
  have C__law_drawn_probes := ok__law_drawn_probes (P := P) (w := w) D C__law_take C__law_shuffled ar_probesA sem_probesA
  have C__law_drawn_orders := ok__law_drawn_orders (P := P) (w := w) D C__law_take C__law_shuffled ar_ordersA sem_ordersA
  have C__law_rule_of := ok__law_rule_of (P := P) (w := w) D ar_ruleOf sem_ruleA
  have C__law_asked := ok__law_asked (P := P) (w := w) D ar_asked sem_asked
  have C__law_other_probes := ok__law_other_probes (P := P) (w := w) D C__law_shuffled ar_otherP sem_otherP
  have C__law_other_order := ok__law_other_order (P := P) (w := w) D C__law_take ar_otherO sem_otherO
  have C__law_paths := ok__law_paths (P := P) (w := w) D C_insert ar_paths sem_paths
  have C__law_right := ok__law_right (P := P) (w := w) D C_layout_of C_best C_next_key C_look_up C__law_take C__law_of C__law_shuffled C__law_drawn_probes C__law_drawn_orders C__law_rule_of C__law_asked C__law_other_probes C__law_other_order C__law_paths ar_rightA sem_right75
  have C_law := ok_law (P := P) (w := w) D C__law_pot_of C__law_right ar_law sem_law10
  exact C_law
end
theorem all_mk {l : PySem.W.OpenLaw} {w : World} {K : PySem.W.Frag} {h : Heap} {mg : Str → Option Value} {fa : Addr} (X : K.In h) (G : h.Ns mainGlobals mg) (hfa : mg "law" = some (.ref fa))
    {f1 f2 f3 f4 f5 f6 f7 f8 f9 f10 f11 f12 f13 f14 f15 f16 f17 f18 f19 f20 f21 f22 f23 f24 : Addr} {od1 an1 od2 an2 od3 an3 od4 an4 od5 an5 od6 an6 od7 an7 od8 an8 od9 an9 od10 an10 od11 an11 od12 an12 od13 an13 od14 an14 od15 an15 od16 an16 od17 an17 od18 an18 od19 an19 od20 an20 od21 an21 od22 an22 od23 an23 od24 an24 : Option Addr} {sl1 sl2 sl3 sl4 sl5 sl6 sl7 sl8 sl9 sl10 sl11 sl12 sl13 sl14 sl15 sl16 sl17 sl18 sl19 sl20 sl21 sl22 sl23 sl24 : Array (Option Value)} {oc1 kV1 dc1 pm1 cd1 ct1 oc2 kV2 dc2 pm2 cd2 ct2 oc3 kV3 dc3 pm3 cd3 ct3 oc4 kV4 dc4 pm4 cd4 ct4 oc5 kV5 dc5 pm5 cd5 ct5 oc6 kV6 dc6 pm6 cd6 ct6 oc7 kV7 dc7 pm7 cd7 ct7 oc8 kV8 dc8 pm8 cd8 ct8 oc9 kV9 dc9 pm9 cd9 ct9 oc10 kV10 dc10 pm10 cd10 ct10 oc11 kV11 dc11 pm11 cd11 ct11 oc12 kV12 dc12 pm12 cd12 ct12 oc13 kV13 dc13 pm13 cd13 ct13 oc14 kV14 dc14 pm14 cd14 ct14 oc15 kV15 dc15 pm15 cd15 ct15 oc16 kV16 dc16 pm16 cd16 ct16 oc17 kV17 dc17 pm17 cd17 ct17 oc18 kV18 dc18 pm18 cd18 ct18 oc19 kV19 dc19 pm19 cd19 ct19 oc20 kV20 dc20 pm20 cd20 ct20 oc21 kV21 dc21 pm21 cd21 ct21 oc22 kV22 dc22 pm22 cd22 ct22 oc23 kV23 dc23 pm23 cd23 ct23 oc24 kV24 dc24 pm24 cd24 ct24 : Value}
    (a1 : PySem.W.nsIn K mainGlobals "insert" = some (some (.ref f1))) (l1 : K.lookup f1 = some ⟨oc1, od1, .func (PySem.W.fnOf "insert" "insert" (defArgs s_insert) (defBody s_insert) (defScope s_insert) .none kV1 dc1 pm1 an1 cd1 ct1), sl1⟩) (c1 : PySem.W.codeIn K cd1 "insert" = true) (k1 : PySem.W.keepIn K (.ref f1) = true)
    (a2 : PySem.W.nsIn K mainGlobals "layout_of" = some (some (.ref f2))) (l2 : K.lookup f2 = some ⟨oc2, od2, .func (PySem.W.fnOf "layout_of" "layout_of" (defArgs s_layout_of) (defBody s_layout_of) (defScope s_layout_of) .none kV2 dc2 pm2 an2 cd2 ct2), sl2⟩) (c2 : PySem.W.codeIn K cd2 "layout_of" = true) (k2 : PySem.W.keepIn K (.ref f2) = true)
    (a3 : PySem.W.nsIn K mainGlobals "ring_at" = some (some (.ref f3))) (l3 : K.lookup f3 = some ⟨oc3, od3, .func (PySem.W.fnOf "ring_at" "ring_at" (defArgs s_ring_at) (defBody s_ring_at) (defScope s_ring_at) .none kV3 dc3 pm3 an3 cd3 ct3), sl3⟩) (c3 : PySem.W.codeIn K cd3 "ring_at" = true) (k3 : PySem.W.keepIn K (.ref f3) = true)
    (a4 : PySem.W.nsIn K mainGlobals "require_ordered" = some (some (.ref f4))) (l4 : K.lookup f4 = some ⟨oc4, od4, .func (PySem.W.fnOf "require_ordered" "require_ordered" (defArgs s_require_ordered) (defBody s_require_ordered) (defScope s_require_ordered) .none kV4 dc4 pm4 an4 cd4 ct4), sl4⟩) (c4 : PySem.W.codeIn K cd4 "require_ordered" = true) (k4 : PySem.W.keepIn K (.ref f4) = true)
    (a5 : PySem.W.nsIn K mainGlobals "slots_ahead" = some (some (.ref f5))) (l5 : K.lookup f5 = some ⟨oc5, od5, .func (PySem.W.fnOf "slots_ahead" "slots_ahead" (defArgs s_slots_ahead) (defBody s_slots_ahead) (defScope s_slots_ahead) .none kV5 dc5 pm5 an5 cd5 ct5), sl5⟩) (c5 : PySem.W.codeIn K cd5 "slots_ahead" = true) (k5 : PySem.W.keepIn K (.ref f5) = true)
    (a6 : PySem.W.nsIn K mainGlobals "best" = some (some (.ref f6))) (l6 : K.lookup f6 = some ⟨oc6, od6, .func (PySem.W.fnOf "best" "best" (defArgs s_best) (defBody s_best) (defScope s_best) .none kV6 dc6 pm6 an6 cd6 ct6), sl6⟩) (c6 : PySem.W.codeIn K cd6 "best" = true) (k6 : PySem.W.keepIn K (.ref f6) = true)
    (a7 : PySem.W.nsIn K mainGlobals "next_key" = some (some (.ref f7))) (l7 : K.lookup f7 = some ⟨oc7, od7, .func (PySem.W.fnOf "next_key" "next_key" (defArgs s_next_key) (defBody s_next_key) (defScope s_next_key) .none kV7 dc7 pm7 an7 cd7 ct7), sl7⟩) (c7 : PySem.W.codeIn K cd7 "next_key" = true) (k7 : PySem.W.keepIn K (.ref f7) = true)
    (a8 : PySem.W.nsIn K mainGlobals "key_behind" = some (some (.ref f8))) (l8 : K.lookup f8 = some ⟨oc8, od8, .func (PySem.W.fnOf "key_behind" "key_behind" (defArgs s_key_behind) (defBody s_key_behind) (defScope s_key_behind) .none kV8 dc8 pm8 an8 cd8 ct8), sl8⟩) (c8 : PySem.W.codeIn K cd8 "key_behind" = true) (k8 : PySem.W.keepIn K (.ref f8) = true)
    (a9 : PySem.W.nsIn K mainGlobals "strongest_asking" = some (some (.ref f9))) (l9 : K.lookup f9 = some ⟨oc9, od9, .func (PySem.W.fnOf "strongest_asking" "strongest_asking" (defArgs s_strongest_asking) (defBody s_strongest_asking) (defScope s_strongest_asking) .none kV9 dc9 pm9 an9 cd9 ct9), sl9⟩) (c9 : PySem.W.codeIn K cd9 "strongest_asking" = true) (k9 : PySem.W.keepIn K (.ref f9) = true)
    (a10 : PySem.W.nsIn K mainGlobals "would_rather" = some (some (.ref f10))) (l10 : K.lookup f10 = some ⟨oc10, od10, .func (PySem.W.fnOf "would_rather" "would_rather" (defArgs s_would_rather) (defBody s_would_rather) (defScope s_would_rather) .none kV10 dc10 pm10 an10 cd10 ct10), sl10⟩) (c10 : PySem.W.codeIn K cd10 "would_rather" = true) (k10 : PySem.W.keepIn K (.ref f10) = true)
    (a11 : PySem.W.nsIn K mainGlobals "look_up" = some (some (.ref f11))) (l11 : K.lookup f11 = some ⟨oc11, od11, .func (PySem.W.fnOf "look_up" "look_up" (defArgs s_look_up) (defBody s_look_up) (defScope s_look_up) .none kV11 dc11 pm11 an11 cd11 ct11), sl11⟩) (c11 : PySem.W.codeIn K cd11 "look_up" = true) (k11 : PySem.W.keepIn K (.ref f11) = true)
    (a12 : PySem.W.nsIn K mainGlobals "_law_pot_of" = some (some (.ref f12))) (l12 : K.lookup f12 = some ⟨oc12, od12, .func (PySem.W.fnOf "_law_pot_of" "_law_pot_of" (defArgs s__law_pot_of) (defBody s__law_pot_of) (defScope s__law_pot_of) .none kV12 dc12 pm12 an12 cd12 ct12), sl12⟩) (c12 : PySem.W.codeIn K cd12 "_law_pot_of" = true) (k12 : PySem.W.keepIn K (.ref f12) = true)
    (a13 : PySem.W.nsIn K mainGlobals "_law_take" = some (some (.ref f13))) (l13 : K.lookup f13 = some ⟨oc13, od13, .func (PySem.W.fnOf "_law_take" "_law_take" (defArgs s__law_take) (defBody s__law_take) (defScope s__law_take) .none kV13 dc13 pm13 an13 cd13 ct13), sl13⟩) (c13 : PySem.W.codeIn K cd13 "_law_take" = true) (k13 : PySem.W.keepIn K (.ref f13) = true)
    (a14 : PySem.W.nsIn K mainGlobals "_law_of" = some (some (.ref f14))) (l14 : K.lookup f14 = some ⟨oc14, od14, .func (PySem.W.fnOf "_law_of" "_law_of" (defArgs s__law_of) (defBody s__law_of) (defScope s__law_of) .none kV14 dc14 pm14 an14 cd14 ct14), sl14⟩) (c14 : PySem.W.codeIn K cd14 "_law_of" = true) (k14 : PySem.W.keepIn K (.ref f14) = true)
    (a15 : PySem.W.nsIn K mainGlobals "_law_shuffled" = some (some (.ref f15))) (l15 : K.lookup f15 = some ⟨oc15, od15, .func (PySem.W.fnOf "_law_shuffled" "_law_shuffled" (defArgs s__law_shuffled) (defBody s__law_shuffled) (defScope s__law_shuffled) .none kV15 dc15 pm15 an15 cd15 ct15), sl15⟩) (c15 : PySem.W.codeIn K cd15 "_law_shuffled" = true) (k15 : PySem.W.keepIn K (.ref f15) = true)
    (a16 : PySem.W.nsIn K mainGlobals "_law_drawn_probes" = some (some (.ref f16))) (l16 : K.lookup f16 = some ⟨oc16, od16, .func (PySem.W.fnOf "_law_drawn_probes" "_law_drawn_probes" (defArgs s__law_drawn_probes) (defBody s__law_drawn_probes) (defScope s__law_drawn_probes) .none kV16 dc16 pm16 an16 cd16 ct16), sl16⟩) (c16 : PySem.W.codeIn K cd16 "_law_drawn_probes" = true) (k16 : PySem.W.keepIn K (.ref f16) = true)
    (a17 : PySem.W.nsIn K mainGlobals "_law_drawn_orders" = some (some (.ref f17))) (l17 : K.lookup f17 = some ⟨oc17, od17, .func (PySem.W.fnOf "_law_drawn_orders" "_law_drawn_orders" (defArgs s__law_drawn_orders) (defBody s__law_drawn_orders) (defScope s__law_drawn_orders) .none kV17 dc17 pm17 an17 cd17 ct17), sl17⟩) (c17 : PySem.W.codeIn K cd17 "_law_drawn_orders" = true) (k17 : PySem.W.keepIn K (.ref f17) = true)
    (a18 : PySem.W.nsIn K mainGlobals "_law_rule_of" = some (some (.ref f18))) (l18 : K.lookup f18 = some ⟨oc18, od18, .func (PySem.W.fnOf "_law_rule_of" "_law_rule_of" (defArgs s__law_rule_of) (defBody s__law_rule_of) (defScope s__law_rule_of) .none kV18 dc18 pm18 an18 cd18 ct18), sl18⟩) (c18 : PySem.W.codeIn K cd18 "_law_rule_of" = true) (k18 : PySem.W.keepIn K (.ref f18) = true)
    (a19 : PySem.W.nsIn K mainGlobals "_law_asked" = some (some (.ref f19))) (l19 : K.lookup f19 = some ⟨oc19, od19, .func (PySem.W.fnOf "_law_asked" "_law_asked" (defArgs s__law_asked) (defBody s__law_asked) (defScope s__law_asked) .none kV19 dc19 pm19 an19 cd19 ct19), sl19⟩) (c19 : PySem.W.codeIn K cd19 "_law_asked" = true) (k19 : PySem.W.keepIn K (.ref f19) = true)
    (a20 : PySem.W.nsIn K mainGlobals "_law_other_probes" = some (some (.ref f20))) (l20 : K.lookup f20 = some ⟨oc20, od20, .func (PySem.W.fnOf "_law_other_probes" "_law_other_probes" (defArgs s__law_other_probes) (defBody s__law_other_probes) (defScope s__law_other_probes) .none kV20 dc20 pm20 an20 cd20 ct20), sl20⟩) (c20 : PySem.W.codeIn K cd20 "_law_other_probes" = true) (k20 : PySem.W.keepIn K (.ref f20) = true)
    (a21 : PySem.W.nsIn K mainGlobals "_law_other_order" = some (some (.ref f21))) (l21 : K.lookup f21 = some ⟨oc21, od21, .func (PySem.W.fnOf "_law_other_order" "_law_other_order" (defArgs s__law_other_order) (defBody s__law_other_order) (defScope s__law_other_order) .none kV21 dc21 pm21 an21 cd21 ct21), sl21⟩) (c21 : PySem.W.codeIn K cd21 "_law_other_order" = true) (k21 : PySem.W.keepIn K (.ref f21) = true)
    (a22 : PySem.W.nsIn K mainGlobals "_law_paths" = some (some (.ref f22))) (l22 : K.lookup f22 = some ⟨oc22, od22, .func (PySem.W.fnOf "_law_paths" "_law_paths" (defArgs s__law_paths) (defBody s__law_paths) (defScope s__law_paths) .none kV22 dc22 pm22 an22 cd22 ct22), sl22⟩) (c22 : PySem.W.codeIn K cd22 "_law_paths" = true) (k22 : PySem.W.keepIn K (.ref f22) = true)
    (a23 : PySem.W.nsIn K mainGlobals "_law_right" = some (some (.ref f23))) (l23 : K.lookup f23 = some ⟨oc23, od23, .func (PySem.W.fnOf "_law_right" "_law_right" (defArgs s__law_right) (defBody s__law_right) (defScope s__law_right) .none kV23 dc23 pm23 an23 cd23 ct23), sl23⟩) (c23 : PySem.W.codeIn K cd23 "_law_right" = true) (k23 : PySem.W.keepIn K (.ref f23) = true)
    (a24 : PySem.W.nsIn K mainGlobals "law" = some (some (.ref f24))) (l24 : K.lookup f24 = some ⟨oc24, od24, .func (PySem.W.fnOf "law" "law" (defArgs s_law) (defBody s_law) (defScope s_law) .none kV24 dc24 pm24 an24 cd24 ct24), sl24⟩) (c24 : PySem.W.codeIn K cd24 "law" = true) (k24 : PySem.W.keepIn K (.ref f24) = true)
    {lc1 lp1 : Addr} {ce1 : Value} {cdd1 : Option Addr} {cvs1 : Array Value} {csl1 : Array (Option Value)} (cdr1 : cd9 = .ref lc1) (lk1 : K.lookup lc1 = some ⟨ce1, cdd1, .fields cvs1, csl1⟩) (lv1 : cvs1[11]? = some (.ref lp1)) (out1 : K.lookup lp1 = none)
    {lc2 lp2 : Addr} {ce2 : Value} {cdd2 : Option Addr} {cvs2 : Array Value} {csl2 : Array (Option Value)} (cdr2 : cd17 = .ref lc2) (lk2 : K.lookup lc2 = some ⟨ce2, cdd2, .fields cvs2, csl2⟩) (lv2 : cvs2[11]? = some (.ref lp2)) (out2 : K.lookup lp2 = none)
    (ne12 : lp1 ≠ lp2)
    (ne21 : lp2 ≠ lp1)
    {tm_EMPTY : Tok} (y_EMPTY : PySem.W.nsIn K mainGlobals "EMPTY" = some (some (.int (-1) tm_EMPTY)))
    {tm_NO_KEY : Tok} (y_NO_KEY : PySem.W.nsIn K mainGlobals "NO_KEY" = some (some (.int (-1) tm_NO_KEY)))
    {tm_NO_SLOT : Tok} (y_NO_SLOT : PySem.W.nsIn K mainGlobals "NO_SLOT" = some (some (.int (-1) tm_NO_SLOT)))
    (z_abs : PySem.W.nsIn K mainGlobals "abs" = some none)
    (z_all : PySem.W.nsIn K mainGlobals "all" = some none)
    (z_enumerate : PySem.W.nsIn K mainGlobals "enumerate" = some none)
    (z_int : PySem.W.nsIn K mainGlobals "int" = some none)
    (z_len : PySem.W.nsIn K mainGlobals "len" = some none)
    (z_list : PySem.W.nsIn K mainGlobals "list" = some none)
    (z_max : PySem.W.nsIn K mainGlobals "max" = some none)
    (z_min : PySem.W.nsIn K mainGlobals "min" = some none)
    (z_range : PySem.W.nsIn K mainGlobals "range" = some none)
    (z_sorted : PySem.W.nsIn K mainGlobals "sorted" = some none)
    (z_tuple : PySem.W.nsIn K mainGlobals "tuple" = some none)
    :
    ∃ (cs : List (Addr × Addr)) (fd : FuncData), (∀ p ∈ cs, ∃ y ∈ (["strongest_asking", "_law_drawn_orders"] : List Str), tabIn K y = some p) ∧ (∀ p ∈ cs, K.lookup p.2 = none) ∧ (∀ (s : Shared) (v : Value), BindsTo s fd ⟨[v], []⟩ [("_law_script", v)]) ∧
      ∀ base : Heap, K.In base → base.Ns mainGlobals mg → (∀ p ∈ cs, TabB base mg p.1 p.2) → FnG l.prog w K mg base 8 fa fd ["_law_script"] (spD (tabsOf cs ["strongest_asking", "_law_drawn_orders"]) K 1 g_law) := by
  have e := hfa.symm.trans (PySem.W.mg_of X G a24)
  cases e
  have F1 := fun_mk (st := s_insert) l1 c1 k1
  have b1 := F1.binds (ps := ["probes", "rule", "layout", "key"]) fun _ _ _ _ _ _ us hl => match us, hl with | [_, _, _, _], _ => rfl
  have F2 := fun_mk (st := s_layout_of) l2 c2 k2
  have b2 := F2.binds (ps := ["probes", "rule", "history"]) fun _ _ _ _ _ _ us hl => match us, hl with | [_, _, _], _ => rfl
  have F3 := fun_mk (st := s_ring_at) l3 c3 k3
  have b3 := F3.binds (ps := ["rule", "slot"]) fun _ _ _ _ _ _ us hl => match us, hl with | [_, _], _ => rfl
  have F4 := fun_mk (st := s_require_ordered) l4 c4 k4
  have b4 := F4.binds (ps := ["rule"]) fun _ _ _ _ _ _ us hl => match us, hl with | [_], _ => rfl
  have F5 := fun_mk (st := s_slots_ahead) l5 c5 k5
  have b5 := F5.binds (ps := ["order", "slot"]) fun _ _ _ _ _ _ us hl => match us, hl with | [_, _], _ => rfl
  have F6 := fun_mk (st := s_best) l6 c6 k6
  have b6 := F6.binds (ps := ["probes", "rule", "keys"]) fun _ _ _ _ _ _ us hl => match us, hl with | [_, _, _], _ => rfl
  have F7 := fun_mk (st := s_next_key) l7 c7 k7
  have b7 := F7.binds (ps := ["probes", "rule", "layout", "slot"]) fun _ _ _ _ _ _ us hl => match us, hl with | [_, _, _, _], _ => rfl
  have F8 := fun_mk (st := s_key_behind) l8 c8 k8
  have b8 := F8.binds (ps := ["probes", "rule", "layout", "slot"]) fun _ _ _ _ _ _ us hl => match us, hl with | [_, _, _, _], _ => rfl
  have F9 := fun_mk (st := s_strongest_asking) l9 c9 k9
  have b9 := F9.binds (ps := ["probes", "rule", "layout", "slot", "keys"]) fun _ _ _ _ _ _ us hl => match us, hl with | [_, _, _, _, _], _ => rfl
  have F10 := fun_mk (st := s_would_rather) l10 c10 k10
  have b10 := F10.binds (ps := ["probes", "layout", "key", "slot"]) fun _ _ _ _ _ _ us hl => match us, hl with | [_, _, _, _], _ => rfl
  have F11 := fun_mk (st := s_look_up) l11 c11 k11
  have b11 := F11.binds (ps := ["probes", "rule", "layout", "key"]) fun _ _ _ _ _ _ us hl => match us, hl with | [_, _, _, _], _ => rfl
  have F12 := fun_mk (st := s__law_pot_of) l12 c12 k12
  have b12 := F12.binds (ps := ["_law_script", "_law_k"]) fun _ _ _ _ _ _ us hl => match us, hl with | [_, _], _ => rfl
  have F13 := fun_mk (st := s__law_take) l13 c13 k13
  have b13 := F13.binds (ps := ["_law_pot", "_law_upto"]) fun _ _ _ _ _ _ us hl => match us, hl with | [_, _], _ => rfl
  have F14 := fun_mk (st := s__law_of) l14 c14 k14
  have b14 := F14.binds (ps := ["_law_pot", "_law_some"]) fun _ _ _ _ _ _ us hl => match us, hl with | [_, _], _ => rfl
  have F15 := fun_mk (st := s__law_shuffled) l15 c15 k15
  have b15 := F15.binds (ps := ["_law_pot", "_law_some"]) fun _ _ _ _ _ _ us hl => match us, hl with | [_, _], _ => rfl
  have F16 := fun_mk (st := s__law_drawn_probes) l16 c16 k16
  have b16 := F16.binds (ps := ["_law_pot", "_law_keys", "_law_slots"]) fun _ _ _ _ _ _ us hl => match us, hl with | [_, _, _], _ => rfl
  have F17 := fun_mk (st := s__law_drawn_orders) l17 c17 k17
  have b17 := F17.binds (ps := ["_law_pot", "_law_probes"]) fun _ _ _ _ _ _ us hl => match us, hl with | [_, _], _ => rfl
  have F18 := fun_mk (st := s__law_rule_of) l18 c18 k18
  have b18 := F18.binds (ps := ["_law_orders"]) fun _ _ _ _ _ _ us hl => match us, hl with | [_], _ => rfl
  have F19 := fun_mk (st := s__law_asked) l19 c19 k19
  have b19 := F19.binds (ps := ["_law_probes", "_law_layout", "_law_spot"]) fun _ _ _ _ _ _ us hl => match us, hl with | [_, _, _], _ => rfl
  have F20 := fun_mk (st := s__law_other_probes) l20 c20 k20
  have b20 := F20.binds (ps := ["_law_pot", "_law_probes", "_law_layout"]) fun _ _ _ _ _ _ us hl => match us, hl with | [_, _, _], _ => rfl
  have F21 := fun_mk (st := s__law_other_order) l21 c21 k21
  have b21 := F21.binds (ps := ["_law_pot", "_law_order", "_law_asked_here"]) fun _ _ _ _ _ _ us hl => match us, hl with | [_, _, _], _ => rfl
  have F22 := fun_mk (st := s__law_paths) l22 c22 k22
  have b22 := F22.binds (ps := ["_law_probes", "_law_rule", "_law_history"]) fun _ _ _ _ _ _ us hl => match us, hl with | [_, _, _], _ => rfl
  have F23 := fun_mk (st := s__law_right) l23 c23 k23
  have b23 := F23.binds (ps := ["_law_pot"]) fun _ _ _ _ _ _ us hl => match us, hl with | [_], _ => rfl
  have F24 := fun_mk (st := s_law) l24 c24 k24
  have b24 := F24.binds (ps := ["_law_script"]) fun _ _ _ _ _ _ us hl => match us, hl with | [_], _ => rfl
  have tin1 : tabIn K "strongest_asking" = some (lc1, lp1) := by
    unfold tabIn
    simp only [a9, l9, cdr1, lk1, lv1]
  have tin2 : tabIn K "_law_drawn_orders" = some (lc2, lp2) := by
    unfold tabIn
    simp only [a17, l17, cdr2, lk2, lv2]
  refine ⟨[(lc1, lp1), (lc2, lp2)], _, fun p hp => ?_, fun p hp => ?_, fun s v => F24.bindsK fun _ _ _ _ _ _ => rfl, fun base _ _ tb => ?_⟩
  · simp only [List.mem_cons, List.not_mem_nil, or_false] at hp
    rcases hp with rfl | rfl
    · exact ⟨"strongest_asking", by simp, tin1⟩
    · exact ⟨"_law_drawn_orders", by simp, tin2⟩
  · simp only [List.mem_cons, List.not_mem_nil, or_false] at hp
    rcases hp with rfl | rfl
    · exact out1
    · exact out2
  have D : Defs K mg base (tabsOf [(lc1, lp1), (lc2, lp2)] ["strongest_asking", "_law_drawn_orders"]) := ⟨⟨_, _, F1, b1, PySem.W.mg_of X G a1⟩,
    ⟨_, _, F2, b2, PySem.W.mg_of X G a2⟩,
    ⟨_, _, F3, b3, PySem.W.mg_of X G a3⟩,
    ⟨_, _, F4, b4, PySem.W.mg_of X G a4⟩,
    ⟨_, _, F5, b5, PySem.W.mg_of X G a5⟩,
    ⟨_, _, F6, b6, PySem.W.mg_of X G a6⟩,
    ⟨_, _, F7, b7, PySem.W.mg_of X G a7⟩,
    ⟨_, _, F8, b8, PySem.W.mg_of X G a8⟩,
    ⟨_, _, F9, b9, PySem.W.mg_of X G a9, lc1, lp1, cdr1, tb (lc1, lp1) List.mem_cons_self, List.mem_cons_self, fun p hp e => by
      simp only [tabsOf, List.mem_cons, List.not_mem_nil, or_false] at hp
      rcases hp with rfl | rfl
      · rfl
      · exact absurd e ne21
    ⟩,
    ⟨_, _, F10, b10, PySem.W.mg_of X G a10⟩,
    ⟨_, _, F11, b11, PySem.W.mg_of X G a11⟩,
    ⟨_, _, F12, b12, PySem.W.mg_of X G a12⟩,
    ⟨_, _, F13, b13, PySem.W.mg_of X G a13⟩,
    ⟨_, _, F14, b14, PySem.W.mg_of X G a14⟩,
    ⟨_, _, F15, b15, PySem.W.mg_of X G a15⟩,
    ⟨_, _, F16, b16, PySem.W.mg_of X G a16⟩,
    ⟨_, _, F17, b17, PySem.W.mg_of X G a17, lc2, lp2, cdr2, tb (lc2, lp2) (List.mem_cons_of_mem _ List.mem_cons_self), (List.mem_cons_of_mem _ List.mem_cons_self), fun p hp e => by
      simp only [tabsOf, List.mem_cons, List.not_mem_nil, or_false] at hp
      rcases hp with rfl | rfl
      · exact absurd e ne12
      · rfl
    ⟩,
    ⟨_, _, F18, b18, PySem.W.mg_of X G a18⟩,
    ⟨_, _, F19, b19, PySem.W.mg_of X G a19⟩,
    ⟨_, _, F20, b20, PySem.W.mg_of X G a20⟩,
    ⟨_, _, F21, b21, PySem.W.mg_of X G a21⟩,
    ⟨_, _, F22, b22, PySem.W.mg_of X G a22⟩,
    ⟨_, _, F23, b23, PySem.W.mg_of X G a23⟩,
    ⟨_, _, F24, b24, PySem.W.mg_of X G a24⟩,
    ⟨_, PySem.W.mg_of X G y_EMPTY, _, rfl⟩,
    ⟨_, PySem.W.mg_of X G y_NO_KEY, _, rfl⟩,
    ⟨_, PySem.W.mg_of X G y_NO_SLOT, _, rfl⟩,
    PySem.W.mg_none_of X G z_abs,
    PySem.W.mg_none_of X G z_all,
    PySem.W.mg_none_of X G z_enumerate,
    PySem.W.mg_none_of X G z_int,
    PySem.W.mg_none_of X G z_len,
    PySem.W.mg_none_of X G z_list,
    PySem.W.mg_none_of X G z_max,
    PySem.W.mg_none_of X G z_min,
    PySem.W.mg_none_of X G z_range,
    PySem.W.mg_none_of X G z_sorted,
    PySem.W.mg_none_of X G z_tuple⟩
  obtain ⟨f, fd, F, b, m, C⟩ := law_ok (P := l.prog) (w := w) D
  have e2 := m.symm.trans (PySem.W.mg_of X G a24)
  cases e2
  have e3 := F.one F24
  subst e3
  exact C.fn

end DL.K75
open PySem PySem.W PyProof.Rows
set_option maxHeartbeats 0 in
theorem PySem.Challenge.cw_samelayout_k75_whole_what_is_never_asked_holds : PySem.Challenge.rw_samelayout_k75_whole_what_is_never_asked.Holds := by
  w_on; o_law; k_head; (case hw => w_witness2)
  k_fill
  refine SL.walkGT (l := PySem.Challenge.rw_samelayout_k75_whole_what_is_never_asked) (n := 63) (k := 8) (x := "_law_script") (sp := fun cs K => DL.spD (DL.tabsOf cs ["strongest_asking", "_law_drawn_orders"]) K 1 DL.g_law) ["strongest_asking", "_law_drawn_orders"] rfl (by decide) rfl ⟨rfl, by decide, by decide⟩ (fun w h Y => by first | exact PySem.W.km_in_of Y | exact PySem.W.kIn_of Y) (fun y hy => by
    simp only [List.mem_cons, List.not_mem_nil, or_false] at hy
    rcases hy with rfl | rfl <;> decide +kernel) ?F (fun cs K H a ns hl em hS => DL.law_start DL.tabsOf_mem em hS fun x hx => ⟨ns, x, rfl, hx, hl, fun _ => rfl⟩)
  case F =>
    intro w mg fa h KX G hmg
    refine' DL.K75.all_mk KX G hmg ?a1 ?l1 ?c1 ?k1 ?a2 ?l2 ?c2 ?k2 ?a3 ?l3 ?c3 ?k3 ?a4 ?l4 ?c4 ?k4 ?a5 ?l5 ?c5 ?k5 ?a6 ?l6 ?c6 ?k6 ?a7 ?l7 ?c7 ?k7 ?a8 ?l8 ?c8 ?k8 ?a9 ?l9 ?c9 ?k9 ?a10 ?l10 ?c10 ?k10 ?a11 ?l11 ?c11 ?k11 ?a12 ?l12 ?c12 ?k12 ?a13 ?l13 ?c13 ?k13 ?a14 ?l14 ?c14 ?k14 ?a15 ?l15 ?c15 ?k15 ?a16 ?l16 ?c16 ?k16 ?a17 ?l17 ?c17 ?k17 ?a18 ?l18 ?c18 ?k18 ?a19 ?l19 ?c19 ?k19 ?a20 ?l20 ?c20 ?k20 ?a21 ?l21 ?c21 ?k21 ?a22 ?l22 ?c22 ?k22 ?a23 ?l23 ?c23 ?k23 ?a24 ?l24 ?c24 ?k24 ?cdr1 ?lk1 ?lv1 ?out1 ?cdr2 ?lk2 ?lv2 ?out2 ?ne12 ?ne21 ?y_EMPTY ?y_NO_KEY ?y_NO_SLOT ?z_abs ?z_all ?z_enumerate ?z_int ?z_len ?z_list ?z_max ?z_min ?z_range ?z_sorted ?z_tuple
    (case a1 => k_is); (case l1 => k_is); (case c1 => k_is); (case k1 => k_is)
    (case a2 => k_is); (case l2 => k_is); (case c2 => k_is); (case k2 => k_is)
    (case a3 => k_is); (case l3 => k_is); (case c3 => k_is); (case k3 => k_is)
    (case a4 => k_is); (case l4 => k_is); (case c4 => k_is); (case k4 => k_is)
    (case a5 => k_is); (case l5 => k_is); (case c5 => k_is); (case k5 => k_is)
    (case a6 => k_is); (case l6 => k_is); (case c6 => k_is); (case k6 => k_is)
    (case a7 => k_is); (case l7 => k_is); (case c7 => k_is); (case k7 => k_is)
    (case a8 => k_is); (case l8 => k_is); (case c8 => k_is); (case k8 => k_is)
    (case a9 => k_is); (case l9 => k_is); (case c9 => k_is); (case k9 => k_is)
    (case a10 => k_is); (case l10 => k_is); (case c10 => k_is); (case k10 => k_is)
    (case a11 => k_is); (case l11 => k_is); (case c11 => k_is); (case k11 => k_is)
    (case a12 => k_is); (case l12 => k_is); (case c12 => k_is); (case k12 => k_is)
    (case a13 => k_is); (case l13 => k_is); (case c13 => k_is); (case k13 => k_is)
    (case a14 => k_is); (case l14 => k_is); (case c14 => k_is); (case k14 => k_is)
    (case a15 => k_is); (case l15 => k_is); (case c15 => k_is); (case k15 => k_is)
    (case a16 => k_is); (case l16 => k_is); (case c16 => k_is); (case k16 => k_is)
    (case a17 => k_is); (case l17 => k_is); (case c17 => k_is); (case k17 => k_is)
    (case a18 => k_is); (case l18 => k_is); (case c18 => k_is); (case k18 => k_is)
    (case a19 => k_is); (case l19 => k_is); (case c19 => k_is); (case k19 => k_is)
    (case a20 => k_is); (case l20 => k_is); (case c20 => k_is); (case k20 => k_is)
    (case a21 => k_is); (case l21 => k_is); (case c21 => k_is); (case k21 => k_is)
    (case a22 => k_is); (case l22 => k_is); (case c22 => k_is); (case k22 => k_is)
    (case a23 => k_is); (case l23 => k_is); (case c23 => k_is); (case k23 => k_is)
    (case a24 => k_is); (case l24 => k_is); (case c24 => k_is); (case k24 => k_is)
    (case cdr1 => first | rfl | k_is); (case lk1 => k_is); (case lv1 => first | rfl | k_is); (case out1 => first | rfl | k_is)
    (case cdr2 => first | rfl | k_is); (case lk2 => k_is); (case lv2 => first | rfl | k_is); (case out2 => first | rfl | k_is)
    (case ne12 => decide)
    (case ne21 => decide)
    (case y_EMPTY => k_is)
    (case y_NO_KEY => k_is)
    (case y_NO_SLOT => k_is)
    (case z_abs => k_is)
    (case z_all => k_is)
    (case z_enumerate => k_is)
    (case z_int => k_is)
    (case z_len => k_is)
    (case z_list => k_is)
    (case z_max => k_is)
    (case z_min => k_is)
    (case z_range => k_is)
    (case z_sorted => k_is)
    (case z_tuple => k_is)

