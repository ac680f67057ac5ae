import PyProof.Rows.All
import Wide.All
import OpenK.AllK
import Wide.FinOn
import HandS.ForMost
import HandS.IsInst
import HandS.Conv
import HandS.SetFor
import HandS.SortInts
import HandS.TupAny
import HandS.Wide
import HandS.Style
import HandS.RaiseMore
import HandS.ExcValue
import KE.SortKeyHeap
import HandS.Lambda
import HandS.EndTab
import HandS.TupMul
import HandS.Flow
import HandS.Strs
import PyProof.ReprLen
import HandS.TryOnly
import HandS.Zip
import KE.GoesMore
import KE.DataMinMax
import HandS.SortKw
import HandS.Deep
import HandS.More
import HandS.DeepEq
import PyProof.SumAny
import PyProof.ListOps
import KE.KDictZip
import PyProof.CollectIter
import PySem.Challenge.RW_samelayout_k70_whole_farther_stays_is_be
set_option Elab.async false
set_option linter.all false
set_option maxRecDepth 100000
namespace SL
open PySem PySem.Spec PyProof.Rows L2
structure FnG (P : Program) (w : World) (K : PySem.W.Frag) (mg : Str → Option Value) (base : Heap) (k : Nat) (f : Addr)
    (fd : FuncData) (ps : List Str) (sp : Sp) : Prop where
  size : ∀ vs H Q E, sp vs H Q E → vs.length = ps.length
  go : ∀ (A : Around) (outer : List Env) (s : Shared) (H : Hp) (args : Args) (us : List Value) (vs : List V) (Q : VK) (E : XK),
    A.guards = some [] → Room k A → Env0 P w K mg base A outer s H → BindsTo s fd args (ps.zip us) → Vals vs us →
    sp vs H Q E → codeAny (model P w) A (.call (.ref f) args) (CR CX0 outer P w H s Q E) s

section
variable {P : Program} {w : World} {K : PySem.W.Frag} {mg : Str → Option Value} {base : Heap}
theorem fnG_mk {x qual : Str} {st : Stmt} {f : Addr} {fd : FuncData} {N ps : List Str} {k : Nat} {sp : Sp}
    (F : Fun K x qual st f fd) (sc : FnScope N ps (defScope st)) (size : ∀ vs H Q E, sp vs H Q E → vs.length = ps.length)
    (body : ∀ (cdv : Value) (A : Around) (outer : List Env) (s : Shared) (H : Hp) (vs : List V) (Q : VK) (E : XK),
      A.guards = some [] → Room k (A.deeper (envOfC qual (defScope st) s.heap.objs.size f cdv)) → sp vs H Q E →
      ∃ t, PSs (cxOf CX0 P w K mg base N qual (defScope st) f cdv A outer s H E).nox (defBody st) t ∧
        t { nx := fun _ H' => Q .non H', rt := Q } (start N vs) H) : FnG P w K mg base (k + 1) f fd ps sp := by
  obtain ⟨oc, od, kV, doc, pm, an, cdv, ct, osl, rfl, look, code⟩ := F.ex
  constructor
  · exact size
  · intro A outer s H args us vs Q E hgd room env bound rel prom
    have many := size _ _ _ _ prom
    have inK : K.In s.heap := env.mod.kin.keeps fun b o q => (env.bs b o q).1
    have free : s.heap.NoLimit := env.mod.nolimit.keeps fun b o q => (env.bs b o q).1
    refine codeAny_call_function room.depth (inK _ _ look) rfl sc.co sc.gen rfl (PySem.W.codeRec_of inK code)
      (bound _ _ _ _ ?_)
    refine wpAny_newFunctionEnv_cells sc.kind ?kinds fun env' same s1 fresh => ?_
    case kinds =>
      rintro ⟨n, v⟩ here
      rcases sc.par n (List.of_mem_zip here).1 with q | q
      · exact Or.inl q
      · exact Or.inr ⟨q, PySem.W.cellsFrom_some _ _ _ (Or.inl q)⟩
    subst same
    refine ⟨free.keeps fresh.toInCall.keep, codeAny_func ?_⟩
    obtain ⟨t, der, reading⟩ := body cdv A outer s H vs Q E hgd (room.deeper _) prom
    have I := inv_start (CX := CX0) (E := E) sc room.hd env many rel fresh
    refine wpAny_mono (der.nox.run [] s1 (start N vs) H _ I reading) (fun fl s' e => ?_) fun _ _ e => e
    cases fl with
    | ret u => obtain ⟨v, σ', H', J, r', q⟩ := e; exact ⟨v, H', J.os, J.bare, J.base, J.hok, r', q⟩
    | next => obtain ⟨σ', H', J, q⟩ := e; exact ⟨.non, H', J.os, J.bare, J.base, J.hok, rfl, q⟩
    | brk => obtain ⟨_, _, _, q⟩ := e; exact False.elim q
    | cont => obtain ⟨_, _, _, q⟩ := e; exact False.elim q

theorem pe_callG {X : Cx} {k : Nat} {f : Addr} {fd : FuncData} {ps : List Str} {sp : Sp} {x : Str} {p pos : Pos} {e : Expr} {es : List Expr} {t : TA}
    (F : FnG X.prog X.w X.K X.mg X.base k f fd ps sp) (gd : X.A.guards = some []) (room : Room k X.A) (gl : Gl X x)
    (at_ : X.mg x = some (.ref f)) (keep : PySem.W.keepIn X.K (.ref f) = true) (bd : Binds X.K fd ps []) (args : PA X (e :: es) t)
    (h1 : (x == ("__debug__" : Str)) = false := by decide)
    (h2 : starEach (e :: es) X.env = (false, eval e X.env) :: starEach es X.env := by rfl)
    (h3 : (backTo pos (starEach es X.env)).any (·.1) = false := by rfl) :
    PE X (.Call (.Name x p) (e :: es) [] pos) (tCall sp [] E0 t) := by
  constructor
  intro pins s σ H Q I h
  refine wpAny_Call_Name_kw (ld_glob I gl at_ ?_ h1)
  refine PySem.W.callWith_K (h₀ := X.base) I.ok.mod.kin keep (thn (args.run pos pins s σ H _ I h) ?_) h2 h3
  rintro us s1 ⟨vs, H1, I1, rel, q⟩
  refine ⟨I1.kIn, ?_⟩
  have q' : sp vs H1 Q E0 := by have z := q; rw [List.append_nil] at z; exact z
  have long : us.length = ps.length := by rw [← rel.length]; exact F.size _ _ _ _ q'
  have bd' := bd s1 us I1.kIn (by rw [List.append_nil]; exact long)
  rw [List.append_nil] at bd'
  refine wpAny_call (codeAny_mono (F.go X.A X.stack s1 H1 ⟨us, []⟩ us vs Q E0 gd room I1.env0 bd' rel q') fun r s' here => ?_)
  cases r with
  | error _ => exact False.elim here
  | ok fl => cases fl with
    | ret _ => exact I1.after here
    | next => exact False.elim here
    | brk => exact False.elim here
    | cont => exact False.elim here
end
end SL
namespace SL
open PySem PySem.Spec PyProof.Rows L2
theorem op_powB {X : Cx} : OpR X (binaryOp .Pow) (rI (fun i j => 0 ≤ j ∧ (Builtin.Int.intBits i : Int) * j ≤ 2 ^ 27) fun i j => .int (i ^ j.toNat)) :=
  opI fun _ _ _ _ _ _ _ c q => pow_int c.1 c.2 q

theorem objGet {P : Program} {w : World} {H : Hp} {h : Heap} {a : Addr} {o : HO} (x : ObjOk P w H h a o) : ∃ u, h.get? a = some u := by
  cases o with
  | lst xs => obtain ⟨_, _, _, _, e⟩ := x; exact ⟨_, e⟩
  | tup xs => obtain ⟨_, _, _, _, e, _⟩ := x; exact ⟨_, e⟩
  | dK kvs => obtain ⟨_, _, _, _, _, _, _, e, _⟩ := x; exact ⟨_, e⟩
  | dT kvs => obtain ⟨_, _, _, _, _, _, _, e, _⟩ := x; exact ⟨_, e⟩
  | set S n => obtain ⟨_, _, _, _, e, _⟩ := x; exact ⟨_, e⟩
  | ins C dx fs => obtain ⟨_, _, _, e, _⟩ := x; exact ⟨_, e⟩
  | own y => exact x
  | xd fs => obtain ⟨_, ⟨_, _, _, e, _⟩, _⟩ := x; exact ⟨_, e⟩
  | rng lo hi => obtain ⟨_, _, _, e⟩ := x; exact ⟨_, e⟩
  | frz ob u => obtain ⟨e, _⟩ := x; exact ⟨_, e⟩
  | tbl ps => exact ⟨_, x⟩
  | met f y => exact ⟨_, x⟩
  | ext φ => obtain ⟨_, e, _⟩ := x; exact e

def rSortT (K : PySem.W.Frag) : List V → Hp → VK → Prop := fun vs H Q => ∃ (a : Addr) (ns : List Int), vs = [V.ref a] ∧ SqT K H a (ns.map V.int) ∧
  ∀ (out : List Int) (p : Addr), out.Perm ns → out.Pairwise (· ≤ ·) → H p = none → Q (.ref p) (upd H p (.lst (out.map V.int)))
theorem cr_sortT {X : Cx} : CallR X (.builtin "sorted") (rSortT X.K) := by
  intro pins s σ H vs us Q I r h
  obtain ⟨a, ns, rfl, hs, q⟩ := h
  obtain ⟨its, rv, ht, hz⟩ := I.tuple hs
  obtain ⟨o, ho, hc, n, hd⟩ := id ht
  rw [Vals.ref1 r]
  have nums := rv.ints
  have hz' : its.length ≤ sizeLine := by rw [← rv.length]; exact hz
  refine Calls.call_function_entry kind_sorted plain_sorted entry_sorted (args_sorted1 _) ?_
  unfold Builtin.«sorted»
  refine wpAny_bind (m := checkCount "sorted" 1 1 _) (wpAny_pure ?_)
  refine wpAny_bind (wpAny_collect_seq a (Or.inr rfl) ho hc hd (fun h1 kept => ?_) (by simpa using hz'))
  refine wpAny_bind (wpAny_newList ?_ (by simpa using hz'))
  have hoL : (h1.push (seqObj "list" its.toArray 0)).get? h1.objs.size = some (seqObj "list" its.toArray 0) := Heap.get?_push_size _ rfl
  have new1 : s.heap.get? h1.objs.size = none := by
    cases q : s.heap.get? h1.objs.size with
    | none => rfl
    | some o => exact absurd (Heap.lt_size (kept _ _ q)) (Nat.lt_irrefl _)
  have new2 : H h1.objs.size = none := by
    cases q : H h1.objs.size with
    | none => rfl
    | some u =>
      obtain ⟨o, z⟩ := objGet (I.hok _ _ q)
      rw [new1] at z
      cases z
  show wpAny _ _ _ _ _ { s with heap := h1.push (seqObj "list" its.toArray 0) }
  refine wpAny_bind (wpAny_holding (wpAny_call_entry slot_list_sort ⟨_, hoL, rfl⟩ entry_list_sort
    (SrtO.list_sort_ord SrtO.swo_int hoL hz' (fun h2 => SrtO.ints_sortable nums h2) fun out hs hb => ⟨_, rfl, ?_⟩) (args_list_sort _)))
  refine wpAny_pure ⟨_, rfl, ?_⟩
  obtain ⟨k1, k2, k3⟩ := SrtO.ints_out nums hs hb
  obtain ⟨ep, he⟩ := sortedHeap_at (vs := its) (out := out.toArray) hoL
  have len : ((out.map SrtO.iv).map V.int).length ≤ sizeLine := by
    rw [List.length_map, k2.length_eq]
    rw [List.length_map] at hz
    exact hz
  refine ⟨.ref h1.objs.size, upd H h1.objs.size (.lst ((out.map SrtO.iv).map V.int)), I.laidN (t' := s.toks) ?_ new1 new2 ⟨len, out, ep, vals_of_ints k1, he⟩, rfl, q _ _ k2 k3 new2⟩
  intro b u hu
  have lt : b < h1.objs.size := Heap.lt_size (kept _ _ hu)
  have lt2 : b < (h1.push (seqObj "list" its.toArray 0)).objs.size := by rw [Heap.size_push]; exact Nat.lt_succ_of_lt lt
  rw [sortedHeap_old (Nat.ne_of_lt lt) lt2]
  exact Heap.get?_push_of_some _ (kept _ _ hu)

end SL
namespace SL
open PySem PySem.Spec PyProof.Rows L2 PySem.W PySem.Calls
def But2 (x y : Addr) (h g : Heap) : Prop := ∀ c ob, c ≠ x → c ≠ y → h.get? c = some ob → g.get? c = some ob
section
variable {P : Program} {w : World} {A : Around} {E : Value → Shared → Prop} {s : Shared} {a : Addr} {f : Value} {n : Nat} {vs : List Value} {kz : List PyData} {Q : PySem.Fin → Shared → Prop}
structure KeySt (P : Program) (w : World) (A : Around) (s : Shared) (a : Addr) (f : Value) (vs : List Value) (kz : List PyData) (Z : Addr → List Value → Shared → Prop) : Prop where
  first : ∀ (y : Addr) (g : Heap), s.heap.objs.size ≤ y → y ≠ a → (∀ c ob, c ≠ a → s.heap.get? c = some ob → g.get? c = some ob) → Z y [] { s with heap := g }
  other : ∀ (y : Addr) (ks : List Value) (s1 : Shared) (g : Heap), Z y ks s1 → But2 a y s1.heap g → Z y ks { s1 with heap := g }
  turn : ∀ (y : Addr) (ks : List Value) (s1 : Shared) (v : Value) (oa oy : Obj), vs[ks.length]? = some v → Z y ks s1 → s1.heap.get? a = some oa → s1.heap.get? y = some oy →
    wpAny (model P w) A (call f [v]) (fun u s2 => Z y (ks ++ [u]) s2 ∧ s2.heap.get? a = some oa ∧ s2.heap.get? y = some oy) (fun _ _ => False) s1
  made : ∀ (y : Addr) (ks : List Value) (s1 : Shared), Z y ks s1 → ks.length = vs.length → EachIs (fun v d => ∃ as, Reads s1.heap v d as) ks kz
theorem sort_made {Z : Addr → List Value → Shared → Prop} (T : KeySt P w A s a f vs kz Z) (ho : s.heap.get? a = some (seqObj "list" vs.toArray n)) (few : vs.length ≤ sizeLine) (al : AllAlike kz) (so : Sortable kz) (un : ∀ d, d ∈ kz → A.units + d.depth < cLine)
    (fin : ∀ (y : Addr) (ks : List Value) (s1 : Shared) (g : Heap) (out : List Value) (tk c : Nat), Z y ks s1 → But2 a y s1.heap g → g.get? a = some (seqObj "list" out.toArray c) → KeyedOut false kz vs out → Q (.done (.ret .none)) { s1 with heap := g, toks := tk }) :
    wpAny (model P w) A (ksk_tree a f false) Q E s := by
  have la := Heap.lt_size ho
  obtain ⟨e1, na⟩ : ∃ e1, (s.heap.update a (Obj.mapSeq fun _ => (#[] : Array Value))).get? a = some (seqObj "list" #[] e1) := ⟨_, get?_update_seq ho fun _ => #[]⟩
  have sb := Heap.SameBut.update s.heap a (Obj.mapSeq fun _ => (#[] : Array Value))
  unfold ksk_tree
  refine wpAny_bind (listItems_at ho rfl (wpAny_bind (listUpdate_at ho rfl ?_ (by rw [List.size_toArray]; exact few) (Nat.zero_le _))))
  refine wpAny_bind (seqEpoch_at na rfl (wpAny_bind (wpAny_newTuple (wpAny_bind (wpAny_newList (wpAny_holding ?_) (Nat.zero_le _))) (by show vs.length ≤ _; exact few))))
  generalize ey : (Heap.push (Heap.update s.heap a (Obj.mapSeq fun _ => (#[] : Array Value))) { cls := .type "tuple", data := .seq vs.toArray.toList.toArray }).objs.size = y
  have ysz : y = s.heap.objs.size + 1 := by rw [← ey, size_push', Heap.size_update]
  have ya : y ≠ a := Nat.ne_of_gt (by rw [ysz]; exact Nat.lt_succ_of_lt la)
  have z0 : Z y [] { s with heap := ((Heap.update s.heap a (Obj.mapSeq fun _ => (#[] : Array Value))).push { cls := .type "tuple", data := .seq vs.toArray.toList.toArray }).push { cls := .type "list", data := .seq ([] : List Value).toArray } } :=
    T.first y _ (by omega) ya fun c ob nc e => Heap.get?_push_of_some _ (Heap.get?_push_of_some _ ((sb.2 c nc).trans e))
  have y0 : (((Heap.update s.heap a (Obj.mapSeq fun _ => (#[] : Array Value))).push { cls := .type "tuple", data := .seq vs.toArray.toList.toArray }).push { cls := .type "list", data := .seq ([] : List Value).toArray }).get? y = some (seqObj "list" #[] 0) := by
    rw [← ey]
    exact Heap.get?_push_size _ rfl
  have a0 : (((Heap.update s.heap a (Obj.mapSeq fun _ => (#[] : Array Value))).push { cls := .type "tuple", data := .seq vs.toArray.toList.toArray }).push { cls := .type "list", data := .seq ([] : List Value).toArray }).get? a = some (seqObj "list" #[] e1) :=
    Heap.get?_push_of_some _ (Heap.get?_push_of_some _ na)
  generalize ((Heap.update s.heap a (Obj.mapSeq fun _ => (#[] : Array Value))).push { cls := .type "tuple", data := .seq vs.toArray.toList.toArray }).push { cls := .type "list", data := .seq ([] : List Value).toArray } = g0 at z0 y0 a0 ⊢
  unfold ksk_rest
  refine wpAny_bind (wpAny_rule ?_)
  rw [← Array.forIn_toList]
  refine wpAny_bind (ksk_fold (fun i s1 => ∃ (ks : List Value) (e : Nat), ks.length = i ∧ Z y ks s1 ∧ s1.heap.get? y = some (seqObj "list" ks.toArray e) ∧ s1.heap.get? a = some (seqObj "list" #[] e1)) vs.toArray.toList 0 _ ⟨[], 0, rfl, z0, y0, a0⟩ ?_ ?_)
  · rintro j x s1 hx ⟨ks, e, lk, z, hy, ha⟩
    rw [List.toList_toArray] at hx
    have lj := (List.getElem?_eq_some_iff.mp hx).1
    have lk' : ks.length = j := by omega
    refine wpAny_bind (wpAny_attempt (wpAny_mono (T.turn y ks s1 x _ _ (by rw [lk']; exact hx) z ha hy) (fun u s2 h => ?_) fun _ _ h => h.elim))
    obtain ⟨z2, ha2, hy2⟩ := h
    try dsimp only
    have sy := Heap.SameBut.update s2.heap y (Obj.mapSeq (·.push u))
    have few2 : ks.toArray.size ≤ sizeLine := by rw [List.size_toArray]; omega
    refine wpAny_bind (listUpdate_at hy2 rfl ?_ few2 (by rw [Array.size_push]; omega))
    have new := get?_update_seq hy2 (·.push u)
    have ep : ks.toArray.push u = (ks ++ [u]).toArray := by simp
    rw [ep] at new
    exact wpAny_pure ⟨rfl, ks ++ [u], _, by rw [List.length_append, lk]; rfl, T.other y _ s2 _ z2 fun c ob _ ny e => (sy.2 c ny).trans e, new, (sy.2 a ya.symm).trans ha2⟩
  · rintro s1 ⟨ks, e, lk, z, hy, ha⟩
    rw [List.toList_toArray, Nat.zero_add] at lk
    have each := T.made y ks s1 z lk
    try dsimp only
    refine wpAny_bind (listItems_at hy rfl ?_)
    have hid : (hideAll s1.heap [y]).get? y = none := hideAll_none _ (by simp)
    have kb : KeepsBut a (hideAll s1.heap [y]) s1.heap := fun c ob _ q => of_hideAll [y] q
    have so2 : SortsAt P w A s1 (dataKind s1.heap kz) ks.toArray.toList := by
      rw [List.toList_toArray]
      exact SortsAt.data each al so un
    refine keyH_end (vs := vs) kb hid hy ha ya so2 (by rw [List.size_toArray]; exact lk) few fun g tk c k3 n3 => ?_
    refine fin y ks s1 g _ tk c z (fun c' ob n1 n2 q => k3 c' ob n1 (hideAll_get _ q (by simpa using n2))) n3 ⟨s1.heap, ks.toArray.toList, al, rfl, ?_⟩
    rw [List.toList_toArray]
    exact each
end
section
variable {P : Program} {w : World} {A : Around} {E : Value → Shared → Prop} {s : Shared} {r fa : Addr} {hi : Int} {t u v : Tok} {m : Nat} {Q : Value → Shared → Prop} {kz : List PyData}
theorem sorted_made (hh : A.handled = none) (hr : IsRange s.heap r 0 hi 1 t u v) (rg : RgOk 0 hi) (em : hi.toNat = m) (al : AllAlike kz) (so : Sortable kz) (un : ∀ d, d ∈ kz → A.units + 2 + d.depth < cLine)
    (go : ∀ (g : Heap) (tk : Nat) (vs : List Value), (∀ c ob, s.heap.get? c = some ob → g.get? c = some ob) → vs.length = m → (∀ (i : Nat) (x : Value), vs[i]? = some x → ∃ t, x = .int i t) →
      ∃ Z : Addr → List Value → Shared → Prop, KeySt P w A.in1.in1 { s with heap := g.push (seqObj "list" vs.toArray 0), toks := tk } g.objs.size (.ref fa) vs kz Z ∧
        ∀ (y : Addr) (ks : List Value) (s1 : Shared) (h : Heap) (out : List Value) (tk2 c : Nat), Z y ks s1 → But2 g.objs.size y s1.heap h → h.get? g.objs.size = some (seqObj "list" out.toArray c) → KeyedOut false kz vs out → Q (.ref g.objs.size) { s1 with heap := h, toks := tk2 }) :
    wpAny (model P w) A (call (.builtin "sorted") [.ref r] [(Str.ofString "key", .ref fa)]) Q E s := by
  obtain ⟨b1, b2, b3, b4, b5⟩ := rg
  refine call_function_entry_kw kind_sorted plain_sorted entry_sorted (ksk_s1 _ _) ?_
  unfold Builtin.«sorted»
  refine wpAny_bind (m := checkCount "sorted" 1 1 _) (wpAny_pure ?_)
  refine wpAny_bind (collect_range (A := A.in1) hh hr (small_one b1 b2 b3 b4) (rangeSize_nat 0 hi) b5 fun g tk acc keep items => ?_)
  have len : acc.toList.length = m := by
    rw [Array.length_toList, items.1]
    omega
  have few : acc.toList.length ≤ sizeLine := by
    rw [len, sizeLine_eq]
    omega
  obtain ⟨Z, T, fin⟩ := go g tk acc.toList keep len fun i x hx => by
    have z := items.2 i x (by rw [← Array.getElem?_toList]; exact hx)
    obtain ⟨t, e⟩ := z
    exact ⟨t, by rw [e]; congr 1; omega⟩
  refine wpAny_bind (wpAny_newList ?_ few)
  have at_ : (g.push (seqObj "list" acc.toList.toArray 0)).get? g.objs.size = some (seqObj "list" acc.toList.toArray 0) := Heap.get?_push_size _ rfl
  refine wpAny_bind (wpAny_holding (wpAny_call_entry_kw slot_list_sort ⟨_, at_, rfl⟩ entry_list_sort ?_ (ksk_l1 _ _)))
  rw [ksk_t1]
  refine sort_made T at_ few al so (fun d hd => un d hd) fun y ks s1 h out tk2 c z bt ha ko => ⟨_, rfl, wpAny_pure ⟨_, rfl, fin y ks s1 h out tk2 c z bt ha ko⟩⟩
end
end SL
namespace SL
open PySem PySem.Spec PyProof.Rows L2 LamX
structure LamP (sc scope : Scope) (x : Str) : Prop where
  kind : scope.kind = .function
  co : scope.isCoroutine = false
  gen : scope.isGenerator = false
  mine : scope.names.lookup x = some .local
  only : ∀ y ∈ scope.names, y.2 ≠ .cell ∧ (y.2 = .local → y.1 = x)
  from_ : ∀ y ∈ scope.names, y.2 = .free → sc.names.lookup y.1 = some .cell ∨ sc.names.lookup y.1 = some .free
def lamPB (sc scope : Scope) (x : Str) : Bool :=
  decide (scope.kind = .function) && !scope.isCoroutine && !scope.isGenerator && decide (scope.names.lookup x = some .local) &&
    scope.names.all fun y => !decide (y.2 = .cell) && (!decide (y.2 = .local) || decide (y.1 = x)) && (!decide (y.2 = .free) || decide (sc.names.lookup y.1 = some .cell) || decide (sc.names.lookup y.1 = some .free))
theorem lamP_by {sc scope : Scope} {x : Str} (h : lamPB sc scope x = true) : LamP sc scope x := by
  unfold lamPB at h
  simp only [Bool.and_eq_true, Bool.or_eq_true, Bool.not_eq_true', decide_eq_true_eq, decide_eq_false_iff_not, List.all_eq_true] at h
  obtain ⟨⟨⟨⟨h1, h2⟩, h3⟩, h4⟩, h5⟩ := h
  refine ⟨h1, h2, h3, h4, fun y hy => ⟨(h5 y hy).1.1, fun e => ?_⟩, fun y hy e => ?_⟩
  · rcases (h5 y hy).1.2 with z | z
    · exact absurd e z
    · exact z
  · rcases (h5 y hy).2 with (z | z) | z
    · exact absurd e z
    · exact Or.inl z
    · exact Or.inr z
def cxP (X : Cx) (A : Around) (s : Shared) (H : Hp) (scope : Scope) (x : Str) (f c' : Addr) : Cx :=
  { lamCx X A X.stack s H (fun _ _ _ => False) scope f c' with N := X.N ++ [x], xe := fun _ _ => False }
section
variable {X : Cx} {pins : List (Addr × Obj)} {σ : L2.St} {H : Hp} {s : Shared}
theorem LamP.has {scope : Scope} {x : Str} (L : LamP X.env.scope scope x) (ok : X.Ok) : ∀ y ∈ scope.names, y.2 = .free → ∃ c, X.env.cells.lookup y.1 = some c := fun y hy e => ok.has _ (L.from_ y hy e)
theorem startP {A : Around} {scope : Scope} {x : Str} {f c' : Addr} {g : Heap} {tk : Nat} {v : V} {u : Value} (I : Inv X pins σ H s) (L : LamP X.env.scope scope x) (nx : x ∉ X.N) (e0 : Env0 X.prog X.w X.K X.mg X.base A X.stack s H) (hd : A.handled = none)
    (rv : RelV v u) (hns : g.Ns s.heap.objs.size fun y => [(x, u)].reverse.lookup y) (kp : ∀ b o, s.heap.get? b = some o → g.get? b = some o) : Inv (cxP X A s H scope x f c') [] (σ ++ [some v]) H { s with heap := g, toks := tk } := by
  have full := L.has I.ok
  have back : ∀ {y c}, (cloFrom X.env.cells scope.names []).lookup y = some c → X.env.cells.lookup y = some c := by
    intro y c e
    rcases cloFrom_mem (PySem.mem_of_lookup e) with m | ⟨m, e2⟩
    · cases m
    · obtain ⟨d, hd⟩ := full _ m rfl
      have hd' : X.env.cells.lookup y = some d := hd
      rw [hd'] at e2
      rw [hd', e2]
      rfl
  have cellK : ∀ {c : Addr} {z : Option Value}, s.heap.IsCell c z → g.IsCell c z := by
    rintro c z ⟨o, ho, e⟩
    exact ⟨o, kp _ _ ho, e⟩
  have noE : ∀ b : Addr, b ∉ (cxP X A s H scope x f c').ex := fun b z => by cases (show b ∈ ([] : List Addr) from z)
  have lenN := I.len
  refine ⟨⟨e0.mod, L.kind, rfl, rfl, Nat.le_refl _, fun y z c p q => I.ok.inj y z c (back p) (back q), ?_, ?_, fun _ => hd, Around.frames_deeper e0.1, Or.inr ⟨rfl, rfl⟩,
      fun b z => absurd z (noE b), e0.bs, e0.bsz, fun b _ _ => noE b, fun b z => absurd z (noE b), e0.funs, e0.frf⟩, rfl, e0.bare, Un.kept kp, ⟨_, hns, ?_⟩, ?_, e0.hok.fresh (Nat.le_refl _), ?_, ?_, e0.hok.kept kp, ?_⟩
  · intro y hy
    have hy : scope.names.lookup y = some .cell ∨ scope.names.lookup y = some .free := hy
    rcases hy with hy | hy
    · exact absurd rfl (L.only _ (PySem.mem_of_lookup hy)).1
    · exact mem_lookup (cloFrom_has (cells := X.env.cells) (acc := []) (PySem.mem_of_lookup hy))
  · intro y c z
    cases (show false = true from z)
  · intro i y w' e1 e2 vis
    have e1 : (X.N ++ [x])[i]? = some y := e1
    have vis : Vis scope y := vis
    rcases Nat.lt_or_ge i X.N.length with li | ge
    · rw [List.getElem?_append_left li] at e1
      rw [List.getElem?_append_left (by omega)] at e2
      have ny : y ≠ x := fun z => nx (by rw [← z]; exact List.mem_of_getElem? e1)
      rcases vis with k | k | k
      · exact absurd ((L.only _ (PySem.mem_of_lookup k)).2 rfl) ny
      · exact absurd rfl (L.only _ (PySem.mem_of_lookup k)).1
      · obtain ⟨m, hn, hl⟩ := I.loc
        have see : Vis X.env.scope y := by
          rcases L.from_ _ (PySem.mem_of_lookup k) rfl with z | z
          · exact Or.inr (Or.inl z)
          · exact Or.inr (Or.inr z)
        obtain ⟨u', r, q⟩ := hl i y w' e1 e2 see
        obtain ⟨c2, h2⟩ := mem_lookup (cloFrom_has (cells := X.env.cells) (acc := []) (PySem.mem_of_lookup k))
        refine ⟨u', r, Or.inr ⟨Or.inr k, c2, h2, ?_⟩⟩
        have c1 := back h2
        rcases q with ⟨k', _⟩ | ⟨_, c3, e', z⟩
        · have k' : X.env.scope.names.lookup y = some .local := k'
          rcases L.from_ _ (PySem.mem_of_lookup k) rfl with k2 | k2 <;> rw [show X.env.scope.names.lookup y = _ from k2] at k' <;> cases k'
        · rw [c1] at e'
          cases e'
          exact cellK z
    · have hi : i = X.N.length := by
        have z := (List.getElem?_eq_some_iff.mp e1).1
        rw [List.length_append, List.length_singleton] at z
        omega
      subst hi
      rw [List.getElem?_append_right (Nat.le_refl _), Nat.sub_self] at e1
      rw [List.getElem?_append_right (by omega), show X.N.length - σ.length = 0 by omega] at e2
      cases e1
      cases e2
      exact ⟨u, rv, Or.inl ⟨L.mine, by simp⟩⟩
  · intro y c e
    obtain ⟨z, q⟩ := I.cell y c (back e)
    exact ⟨z, cellK q⟩
  · intro y c e
    exact I.freeC y c (back e)
  · intro p hp
    cases (show p ∈ ([] : List (Addr × Obj)) ++ [] from hp)
  · show (σ ++ [some v]).length = (X.N ++ [x]).length
    rw [List.length_append, List.length_append, lenN]
    rfl
theorem callP {params : Arguments} {body : Expr} {scope : Scope} {x : Str} {f c' : Addr} {pm ctv : Value} {k : Nat} {tb : TE} {v : V} {u : Value} {Q : VK} (I : Inv X pins σ H s) (L : LamP X.env.scope scope x) (nx : x ∉ X.N)
    (hf : s.heap.get? f = some (PySem.W.kla_obj "<lambda>" (X.env.qual ++ "<lambda>") params body scope (cloFrom X.env.cells scope.names []) pm c' ctv)) (hco : H c' = some (CodeO c' (X.env.qual ++ "<lambda>")))
    (hbind : bindArgs (PySem.W.kla_fn "<lambda>" (X.env.qual ++ "<lambda>") params body scope (cloFrom X.env.cells scope.names []) pm (.ref c') ctv) ⟨[u], []⟩ = pure [(x, u)]) (room : Room (k + 3) X.A)
    (hbody : ∀ (A : Around) (s : Shared) (H : Hp), Room k (A.deeper (lamEnv X scope s.heap.objs.size f c')) → PE (cxP X A s H scope x f c') body tb) (rv : RelV v u) (ht : tb (σ ++ [some v]) H Q) :
    wpAny (model X.prog X.w) X.A.in1.in1 (call (.ref f) [u]) (fun r s2 => CE X.stack X.prog X.w H s Q r s2) (fun _ _ => False) s := by
  have r1 : Room (k + 1) X.A.in1.in1 := Room.in1 (Room.in1 room)
  have e0 : Env0 X.prog X.w X.K X.mg X.base X.A.in1.in1 X.stack s H := ⟨I.env0.1, I.env0.mod, I.env0.bs, I.env0.bsz, I.env0.funs, I.env0.frf, I.env0.hok, I.env0.bare⟩
  obtain ⟨⟨oc, fs, t, hoc, hdc, hvc⟩, _, _⟩ := I.hok c' _ hco
  have run : codeAny (model X.prog X.w) X.A.in1.in1 (.call (.ref f) ⟨[u], []⟩) (fun r s2 => ∃ z, r = .ok (.ret z) ∧ CE X.stack X.prog X.w H s Q z s2) s := by
    refine PySem.W.kla_callFunE r1.depth hf rfl L.co L.gen rfl ⟨c', oc, fs, t, rfl, hoc, hdc, hvc⟩ ?_
    rw [hbind]
    refine wpAny_pure (wpAny_newFunctionEnv (fun y hy => (L.only y hy).1) (fun y hy => ?_) (fun g hns hsb => ⟨I.nolimit.fresh _ hsb, ?_⟩) L.kind)
    · rw [List.mem_singleton] at hy
      rw [hy]
      exact L.mine
    · show codeAny _ _ (.expr body (lamEnv X scope s.heap.objs.size f c')) _ _
      have kp : ∀ b o, s.heap.get? b = some o → g.get? b = some o := fun b o e => hsb.extBut b o (Nat.ne_of_lt (Heap.lt_size e)) (Heap.get?_push_of_some _ e)
      have J := startP (f := f) (c' := c') (tk := s.toks + ([(x, u)] : List (Str × Value)).length) I L nx e0 r1.hd rv hns kp
      refine PySem.W.kla_codeExpr (wpAny_mono ((hbody _ s H (r1.deeper _)).run [] _ _ H Q J ht) (fun z s2 hq => ?_) fun _ _ hq => False.elim hq)
      obtain ⟨z', H', J', rz, q⟩ := hq
      exact ⟨z, rfl, z', H', J'.os, J'.bare, J'.base, J'.hok, rz, q⟩
  refine wpAny_call (codeAny_mono run fun r s2 hq => ?_)
  obtain ⟨z, rfl, hq⟩ := hq
  exact hq
end
end SL
namespace SL
open PySem PySem.Spec PyProof.Rows L2 LamX PySem.W
def KeyV (H : Hp) (z : V) (d : PyData) : Prop := (∃ i : Int, z = .int i ∧ d = .int i) ∨ ∃ (t : Addr) (i j : Int), z = .ref t ∧ H t = some (.tup [.int i, .int j]) ∧ d = .tuple [.int i, .int j]
theorem KeyV.same {H H' : Hp} {z : V} {d : PyData} (k : KeyV H z d) (s : Same H H') : KeyV H' z d := by
  rcases k with h | ⟨t, i, j, a, b, c⟩
  · exact Or.inl h
  · exact Or.inr ⟨t, i, j, a, s _ _ b, c⟩
theorem KeyV.reads {P : Program} {w : World} {H : Hp} {h : Heap} {z : V} {u : Value} {d : PyData} (k : KeyV H z d) (ok : HOk P w H h) (r : RelV z u) : ∃ as, Reads h u d as := by
  rcases k with ⟨i, rfl, rfl⟩ | ⟨t, i, j, rfl, ht, rfl⟩
  · obtain ⟨t, rfl⟩ := r
    exact ⟨_, .int i t⟩
  · obtain rfl : u = Value.ref t := r
    obtain ⟨_, its, rv, ob, e, cl, n, dat⟩ := ok t _ ht
    cases rv with
    | cons r1 t1 =>
      cases t1 with
      | cons r2 t2 =>
        cases t2
        obtain ⟨t1, rfl⟩ := r1
        obtain ⟨t2, rfl⟩ := r2
        exact ⟨_, .tuple e cl dat (.cons (.int i t1) (.cons (.int j t2) .nil))⟩
section
variable {X : Cx} {pins : List (Addr × Obj)} {σ : L2.St} {H H0 : Hp} {s s0 : Shared}
theorem inv_new {g : Heap} {tk : Nat} {ch : List Addr} (I0 : Inv X pins σ H0 s0) (I : Inv X pins σ H s) (new : ∀ b ∈ ch, s0.heap.objs.size ≤ b) (un : ∀ b ∈ ch, H b = none) (kp : ∀ b o, b ∉ ch → s.heap.get? b = some o → g.get? b = some o) :
    Inv X pins σ H { s with heap := g, toks := tk } := by
  have far : ∀ b ∈ ch, ∀ c, c < s0.heap.objs.size → c ≠ b := fun b hb c l z => by
    have := new b hb
    rw [← z] at this
    exact Nat.lt_irrefl _ (Nat.lt_of_lt_of_le l this)
  have nl : X.env.locals ∉ ch := fun z => far _ z _ I0.lt rfl
  refine I.step (g' := s.gens) (d' := s.drawn) (ch := ch) (fun b hb => ⟨Or.inr (Nat.le_trans I0.sz (new b hb)), fun z => far b hb _ I0.lt z.symm, fun y c e => ?_, fun p hp => ?_⟩) (fun b o _ _ nb e _ => kp b o nb e) (fun b o _ _ nb e _ => ⟨o.slots, kp b o nb e⟩) (fun b o _ _ n => n) (fun b o nb e => ⟨o, kp b o nb e⟩) (fun _ _ e => e) (fun _ _ _ e => e)
    (fun b ps e => ⟨#[], by rw [e]; simp⟩) (fun m h => ?_) (fun b o e => ?_) I.bare
  · obtain ⟨v, o, ho, _⟩ := I0.cell y c e
    exact far b hb c (Heap.lt_size ho)
  · exact far b hb _ (Heap.lt_size (I0.pin p hp).1)
  · obtain ⟨o, es, ep, ho, r⟩ := h
    exact ⟨o, es, ep, kp _ _ nl ho, r⟩
  · have nb : ∀ d u, H d = some u → d ∉ ch := fun d u e z => by
      rw [un d z] at e
      cases e
    refine (I.hok b o e).stay (fun d v hd q => kp d v ?_ q) (fun _ q => q) fun _ _ q => q
    rcases hd with z | z
    · rw [z]
      exact nb b o e
    · exact nb d _ z
theorem inv_lay {a : Addr} {o : HO} (I0 : Inv X pins σ H0 s0) (I : Inv X pins σ H s) (new : s0.heap.objs.size ≤ a) (un : H a = none) (ok : ObjOk X.prog X.w (upd H a o) s.heap a o) : Inv X pins σ (upd H a o) s := by
  have far : ∀ c, c < s0.heap.objs.size → c ≠ a := fun c l z => by
    rw [z] at l
    exact Nat.lt_irrefl _ (Nat.lt_of_lt_of_le l new)
  refine I.step (h' := s.heap) (t' := s.toks) (g' := s.gens) (d' := s.drawn) (ch := [a]) (fun b hb => ?_) (fun b o _ _ _ e _ => e) (fun b o _ _ _ e _ => ⟨o.slots, e⟩) (fun b o nb _ n => ?_) (fun b o _ e => ⟨o, e⟩) (fun b xs e => ?_) (fun b u v e => ?_) (fun b ps e => ⟨#[], ?_⟩) (fun m h => h) (fun b u e => ?_) I.bare
  · rw [List.mem_singleton.mp hb]
    refine ⟨Or.inr (Nat.le_trans I0.sz new), fun z => far _ I0.lt z.symm, fun y c e => ?_, fun p hp => far _ (Heap.lt_size (I0.pin p hp).1)⟩
    obtain ⟨v, o, ho, _⟩ := I0.cell y c e
    exact far c (Heap.lt_size ho)
  · rw [upd_ne (fun z => nb (by rw [z]; simp))]
    exact n
  · rw [upd_ne (ne_of_none e un)]
    exact e
  · rw [upd_ne (ne_of_none e un)]
    exact e
  · rw [upd_ne (ne_of_none e un), e]
    simp
  · by_cases z : b = a
    · subst z
      rw [upd_same] at e
      cases e
      exact ok
    · rw [upd_ne z] at e
      exact (I.hok b u e).stay (fun _ _ _ q => q) (fun c q => by rw [upd_ne (ne_of_none q un)]; exact q) fun c xs q => by rw [upd_ne (ne_of_none q un)]; exact q
theorem inv_apart (I0 : Inv X pins σ H0 s0) {b : Addr} (h : s0.heap.objs.size ≤ b) : b ∉ frs X.stack := fun z => by
  rcases List.mem_cons.mp (I0.stkSub _ z) with e | e
  · have l := I0.lt
    rw [← e] at l
    exact Nat.lt_irrefl _ (Nat.lt_of_lt_of_le l h)
  · exact I0.nofs h e
end
theorem vals_snoc {z : V} {u : Value} (r : RelV z u) : ∀ {zs : List V} {us : List Value}, Vals zs us → Vals (zs ++ [z]) (us ++ [u])
  | _, _, .nil => .cons r .nil
  | _, _, .cons a b => .cons a (vals_snoc r b)
theorem vals_each : ∀ {vs : List Value} {ns : List Nat}, EachIs (fun (v : Value) (i : Nat) => ∃ t, v = .int (i : Int) t) vs ns → Vals (ns.map fun i : Nat => V.int (i : Int)) vs
  | _, _, .nil => .nil
  | _, _, .cons a b => .cons a (vals_each b)
theorem each_by {α β : Type} {R : α → β → Prop} : ∀ {as : List α} {bs : List β}, as.length = bs.length → (∀ (i : Nat) (a : α) (b : β), as[i]? = some a → bs[i]? = some b → R a b) → EachIs R as bs
  | [], [], _, _ => .nil
  | [], _ :: _, h, _ => by cases h
  | _ :: _, [], h, _ => by cases h
  | a :: as, b :: bs, h, r => .cons (r 0 a b rfl rfl) (each_by (by simpa using h) fun i x y hx hy => r (i + 1) x y hx hy)
theorem each_range {m : Nat} {vs : List Value} (len : vs.length = m) (items : ∀ (i : Nat) (x : Value), vs[i]? = some x → ∃ t, x = .int i t) : EachIs (fun (v : Value) (i : Nat) => ∃ t, v = .int (i : Int) t) vs (List.range m) := by
  refine each_by (by rw [List.length_range]; exact len) fun i v j hv hj => ?_
  obtain ⟨l1, l2⟩ := List.getElem?_eq_some_iff.mp hj
  rw [List.getElem_range] at l2
  subst l2
  exact items _ v hv
theorem each_reads {P : Program} {w : World} {H : Hp} {h : Heap} {zs : List V} {ks : List Value} {kz : List PyData} (ok : HOk P w H h) (r : Vals zs ks) (l : ks.length = kz.length) (kv : ∀ (i : Nat) (z : V) (d : PyData), zs[i]? = some z → kz[i]? = some d → KeyV H z d) :
    EachIs (fun v d => ∃ as, Reads h v d as) ks kz := by
  refine each_by l fun i u d hu hd => ?_
  have lz := r.length
  have li := (List.getElem?_eq_some_iff.mp hu).1
  obtain ⟨u', hu', rz⟩ := r.get (i := i) (List.getElem?_eq_getElem (by omega))
  rw [hu] at hu'
  cases hu'
  exact (kv i _ d (List.getElem?_eq_getElem (by omega)) hd).reads ok rz
def tSortKey (T : List (Addr × Str)) (ta tb : TE) : TE := fun σ H Q => ta σ H fun n H1 => ∃ m : Nat, n = .int m ∧ m ≤ 1000 ∧ Tabs T H1 ∧ ∀ H2 : Hp, ExtN H1 H2 → Tabs T H2 →
  ∃ k : Nat → PyData, AllAlike ((List.range m).map k) ∧ Sortable ((List.range m).map k) ∧ (∀ i : Nat, (k i).depth ≤ 20) ∧ (∀ (i : Nat) (H3 : Hp), i < m → Same H2 H3 → tb (σ ++ [some (.int i)]) H3 fun z H4 => Same H3 H4 ∧ KeyV H4 z (k i)) ∧
    ∀ (H3 : Hp) (p : Addr), Same H2 H3 → H3 p = none → Q (.ref p) (upd H3 p (.lst (((List.range m).mergeSort (dataLe false k)).map fun i : Nat => V.int (i : Int))))
theorem pe_sortKey {X : Cx} {T : List (Addr × Str)} {e body : Expr} {ta tb : TE} {x : Str} {params : Arguments} {scope : Scope} {k : Nat} {c Pt : Addr} {p1 p2 p3 p4 p5 pos : Pos} (calm : X.calm = true) (g1 : Gl X "sorted") (m1 : X.mg "sorted" = none) (g2 : Gl X "range") (m2 : X.mg "range" = none)
    (ha : PE X e ta) (TB : TabB X.base X.mg c Pt) (hcode : X.env.code = .ref c) (hT : (Pt, X.env.qual ++ "<lambda>") ∈ T) (hu : ∀ p ∈ T, p.1 = Pt → p.2 = X.env.qual ++ "<lambda>") (room : Room (k + 3) X.A) (L : LamP X.env.scope scope x) (nx : x ∉ X.N) (hdef : defaultsOf params X.env = ([], []))
    (hbind : ∀ (q : Str) (cl : List (Str × Addr)) (pm cv ctv u : Value), bindArgs (kla_fn "<lambda>" q params body scope cl pm cv ctv) ⟨[u], []⟩ = pure [(x, u)])
    (hbody : ∀ (A : Around) (s : Shared) (H : Hp) (f c' : Addr), Room k (A.deeper (lamEnv X scope s.heap.objs.size f c')) → PE (cxP X A s H scope x f c') body tb)
    (na : starEach [e] X.env = (false, eval e X.env) :: starEach [] X.env := by rfl)
    (he : backTo pos (starEach [.Call (.Name "range" p2) [e] [] p3] X.env) = (false, eval (.Call (.Name "range" p2) [e] [] p3) X.env) :: backTo pos (starEach [] X.env) := by rfl) :
    PE X (.Call (.Name "sorted" p1) [.Call (.Name "range" p2) [e] [] p3] [⟨some "key", .Lambda params body scope p4, p5⟩] pos) (tSortKey T ta tb) := by
  refine ⟨fun pins s σ H Q I h => ?_⟩
  refine wpAny_Call_Name_kw (ld_blt (u := .builtin "sorted") I g1 m1 (by decide +kernel) ?_)
  refine callWith_kw ?_ he
  rw [he]
  refine Calls.spliced_cons (Call_ (ld_blt I g2 m2 boot_range (callWith_type1 (one_arg ha I h (fun v s1 n H1 I1 r1 q1 => ?_) na) na)))
  obtain ⟨m, rfl, few, tabs, q⟩ := q1
  obtain ⟨t, rfl⟩ := r1
  refine call_range_1 (Calls.spliced_nil ?_)
  have hR : IsRange (s1.heap.push { cls := .type "range", data := .fields #[.int 0 s1.toks, .int m t, .int 1 (s1.toks + 1)] }) s1.heap.objs.size 0 m 1 s1.toks t (s1.toks + 1) := IsRange.new _ _ _ _ _ _ _
  have I1' : Inv X pins σ H1 { s1 with heap := s1.heap.push { cls := .type "range", data := .fields #[.int 0 s1.toks, .int m t, .int 1 (s1.toks + 1)] }, toks := s1.toks + 1 + 1 } := I1.kept fun b u e => Heap.get?_push_of_some _ e
  have fresh : H1 s1.heap.objs.size = none := I1.hok.fresh (Nat.le_refl _)
  have Ip := I1'.pins_of (pins' := (s1.heap.objs.size, _) :: pins) (fun p hp => by
    rcases List.mem_cons.mp hp with z | z
    · rw [z]
      exact ⟨hR, fresh, Nat.ne_of_gt I1.lt, I1.nofs (Nat.le_refl _), fun v z => by cases z⟩
    · exact I1'.pin p (List.mem_append_right _ z))
  show wpAny _ _ (evalAll ((do let v ← eval (.Lambda params body scope p4) X.env; standAt pos; pure v) :: [])) _ _ _
  refine wpAny_evalAll_cons (wpAny_bind (lam_make2 Ip TB hcode hT hu tabs hdef (L.has I.ok) fun f c' pm ctv H2 s2 I2 ext tabs2 hf hfn hfr hco => wpAny_bind (wpAny_standAt (wpAny_pure (wpAny_evalAll_nil ?_)))))
  have hR2 := (I2.pin (s1.heap.objs.size, _) (List.mem_append_right _ List.mem_cons_self)).1
  have I3 : Inv X pins σ H2 s2 := I2.pins_of fun p hp => I2.pin p (List.mem_append_right _ (List.mem_cons_of_mem _ hp))
  obtain ⟨kk, al, so, dep, bodies, q⟩ := q H2 ext tabs2
  have rg : RgOk 0 (m : Int) := RgOk.of_le (by omega) (by omega) (by omega) (by omega)
  show wpAny _ _ (call (.builtin "sorted") [.ref s1.heap.objs.size] [(Str.ofString "key", .ref f)]) _ _ _
  refine sorted_made (kz := (List.range m).map kk) (m := m) (room.hd) hR2 rg (by omega) al so (fun d hd => ?_) (fun g tk vs keep len items => ?_)
  · obtain ⟨i, _, rfl⟩ := List.mem_map.mp hd
    have := dep i
    have := room.un
    omega
  have I0 : Inv X pins σ H2 { s2 with heap := g, toks := tk } := I3.kept keep
  have fg := keep _ _ hf
  have lf : f < g.objs.size := Heap.lt_size fg
  refine ⟨fun y ks s3 => (g.objs.size ≤ y ∧ y ≠ g.objs.size) ∧ ∃ H3 : Hp, Inv X pins σ H3 s3 ∧ Same H2 H3 ∧ H3 g.objs.size = none ∧ H3 y = none ∧ H3 f = none ∧ s3.heap.get? f = some (kla_obj "<lambda>" (X.env.qual ++ "<lambda>") params body scope (cloFrom X.env.cells scope.names []) pm c' ctv) ∧
      ∃ zs : List V, Vals zs ks ∧ ∀ (i : Nat) (z : V), zs[i]? = some z → KeyV H3 z (kk i), ⟨?_, ?_, ?_, ?_⟩, ?_⟩
  · intro y g2 ly ny kp
    have ly' : g.objs.size ≤ y := Nat.le_of_succ_le (by rw [size_push'] at ly; exact ly)
    have kp2 : ∀ b o, g.get? b = some o → g2.get? b = some o := fun b o e => kp b o (Nat.ne_of_lt (Heap.lt_size e)) (Heap.get?_push_of_some _ e)
    exact ⟨⟨ly', ny⟩, H2, I0.kept (t' := tk) kp2, fun _ _ e => e, I0.hok.fresh (Nat.le_refl _), I0.hok.fresh ly', hfn, kp2 _ _ fg, [], .nil, fun i z e => by simp at e⟩
  · rintro y ks s3 g2 ⟨⟨ly, ny⟩, H3, J, sm, na3, ny3, nf3, hf3, zs, rel, kv⟩ bt
    have fa : f ≠ g.objs.size := Nat.ne_of_lt lf
    have fy : f ≠ y := Nat.ne_of_lt (Nat.lt_of_lt_of_le lf ly)
    refine ⟨⟨ly, ny⟩, H3, inv_new (tk := s3.toks) (ch := [g.objs.size, y]) I0 J (fun b hb => ?_) (fun b hb => ?_) (fun b o nb e => bt b o (fun z => nb (by rw [z]; simp)) (fun z => nb (by rw [z]; simp)) e), sm, na3, ny3, nf3, bt _ _ fa fy hf3, zs, rel, kv⟩
    · simp only [List.mem_cons, List.not_mem_nil, or_false] at hb
      rcases hb with z | z
      · rw [z]
        exact Nat.le_refl _
      · rw [z]
        exact ly
    · simp only [List.mem_cons, List.not_mem_nil, or_false] at hb
      rcases hb with z | z
      · rw [z]
        exact na3
      · rw [z]
        exact ny3
  · rintro y ks s3 v oa oy hv ⟨⟨ly, ny⟩, H3, J, sm, na3, ny3, nf3, hf3, zs, rel, kv⟩ hoa hoy
    obtain ⟨t', rfl⟩ := items _ _ hv
    have li : ks.length < m := by
      have := (List.getElem?_eq_some_iff.mp hv).1
      omega
    refine thn (callP (k := k) (v := .int ks.length) J L nx hf3 (sm _ _ hco) (hbind _ _ _ _ _ _) room (fun A s H r => hbody A s H f c' r) ⟨t', rfl⟩ (bodies ks.length H3 li sm)) fun u s4 h4 => ?_
    obtain ⟨z, H4, os, bare, un, hok, rz, sm4, kz⟩ := h4
    have aw : g.objs.size ∉ frs X.stack := inv_apart I0 (Nat.le_refl _)
    have yw : y ∉ frs X.stack := inv_apart I0 ly
    have fw_ : f ∉ frs X.stack := hfr
    refine ⟨⟨⟨ly, ny⟩, H4, J.call' (ch := []) os un hok bare (fun b h => by cases h), sm.trans sm4, un.free _ _ hoa na3 (by simp), un.free _ _ hoy ny3 (by simp), un.free _ _ hf3 nf3 (by simp), un.keep _ _ hf3 nf3 fw_ (by simp), zs ++ [z], ?_, fun i z' e => ?_⟩, un.keep _ _ hoa na3 aw (by simp), un.keep _ _ hoy ny3 yw (by simp)⟩
    · exact vals_snoc rz rel
    · have lz : zs.length = ks.length := rel.length
      rcases Nat.lt_or_ge i zs.length with l | ge
      · rw [List.getElem?_append_left l] at e
        exact (kv i z' e).same sm4
      · have ei : i = zs.length := by
          have := (List.getElem?_eq_some_iff.mp e).1
          rw [List.length_append, List.length_singleton] at this
          omega
        subst ei
        rw [List.getElem?_append_right (Nat.le_refl _), Nat.sub_self] at e
        cases e
        rw [lz]
        exact kz
  · rintro y ks s3 ⟨_, H3, J, sm, na3, ny3, nf3, hf3, zs, rel, kv⟩ lk
    refine each_reads J.hok rel (by rw [List.length_map, List.length_range]; omega) fun i z d hz hd => ?_
    rw [List.getElem?_map] at hd
    obtain ⟨i', hi', rfl⟩ := Option.map_eq_some_iff.mp hd
    have : i' = i := by
      have l := (List.getElem?_eq_some_iff.mp hi')
      obtain ⟨l1, l2⟩ := l
      rw [List.getElem_range] at l2
      exact l2.symm
    subst this
    exact kv _ _ hz
  · rintro y ks s3 h2 out tk2 cn ⟨⟨ly, ny⟩, H3, J, sm, na3, ny3, nf3, hf3, zs, rel, kv⟩ bt hL ko
    have each : EachIs (fun (v : Value) (i : Nat) => ∃ t, v = .int (i : Int) t) vs (List.range m) := each_range len items
    have each2 := keyedOut_each kk ko each
    have J2 : Inv X pins σ H3 { s3 with heap := h2, toks := tk2 } := inv_new (ch := [g.objs.size, y]) I0 J (fun b hb => by
        simp only [List.mem_cons, List.not_mem_nil, or_false] at hb
        rcases hb with z | z
        · rw [z]
          exact Nat.le_refl _
        · rw [z]
          exact ly) (fun b hb => by
        simp only [List.mem_cons, List.not_mem_nil, or_false] at hb
        rcases hb with z | z
        · rw [z]
          exact na3
        · rw [z]
          exact ny3) (fun b o nb e => bt b o (fun z => nb (by rw [z]; simp)) (fun z => nb (by rw [z]; simp)) e)
    refine ⟨.ref g.objs.size, upd H3 g.objs.size (.lst (((List.range m).mergeSort (dataLe false kk)).map fun i : Nat => V.int (i : Int))), inv_lay I0 J2 (Nat.le_refl _) na3 ⟨?_, out, cn, vals_each each2, hL⟩, rfl, q H3 _ sm na3⟩
    rw [List.length_map, List.length_mergeSort, List.length_range, sizeLine_eq]
    omega
end SL
namespace SL
open PySem PySem.Spec PyProof.Rows L2 LamX PySem.W
theorem lawGT {P : Program} {w : World} {K : PySem.W.Frag} {mg mb : Str → Option Value} {k : Nat} {fa a : Addr} {fd : FuncData} {x : Str} {sp : Sp} {cs : List (Addr × Addr)}
    {s₁ : Shared} {vs : List Value} {ns : List Int} (inK : K.In s₁.heap) (gl : s₁.heap.Ns mainGlobals mg) (bl : s₁.heap.Ns builtinsNs mb)
    (bb : ∀ x : Str, x ≠ "__name__" → mb x = bootBuiltins x) (lim : s₁.heap.NoLimit) (gens : s₁.gens = #[])
    (emp : ∀ p ∈ cs, s₁.heap.get? p.2 = some (tabObj #[])) (outT : ∀ p ∈ cs, K.lookup p.2 = none) (codes : ∀ p ∈ cs, CodeHd s₁.heap p.1 p.2)
    (main : ∃ (bm : Addr) (ob : Obj), mg "__builtins__" = some (.ref bm) ∧ bm ≠ builtinsNs ∧ s₁.heap.get? bm = some ob ∧ ob.cls = .type "module" ∧ ob.dict = some builtinsNs ∧ ob.data = .plain)
    (obj : s₁.heap.get? a = some { cls := .type "list", data := .seq vs.toArray }) (nums : IntsAre vs ns) (few : ns.length ≤ sizeLine) (room : Room k callerA)
    (F : ∀ base : Heap, K.In base → base.Ns mainGlobals mg → (∀ p ∈ cs, TabB base mg p.1 p.2) → FnG P w K mg base k fa fd [x] sp)
    (bound : ∀ (s : Shared) (u : Value), BindsTo s fd ⟨[u], []⟩ [(x, u)])
    (prom : ∀ H : Hp, (∀ p ∈ cs, H p.2 = some (.tbl #[])) → SqL K H a (ns.map V.int) → sp [.ref a] H (fun v _ => v = .bl true) E0) :
    codeAny (model P w) callerA (.call (.ref fa) ⟨[.ref a], []⟩)
      (fun r s' => r = .ok (.ret (.bool true)) ∧ OldK s₁.heap s'.heap ∧ s'.os = s₁.os ∧ AllBare s'.gens) s₁ := by
  have rel := vals_ints nums
  have empty : ∀ b : Addr, (∃ p ∈ cs, p.2 = b) → s₁.heap.get? b = some (tabObj #[]) := by
    rintro b ⟨p, hp, rfl⟩
    exact emp p hp
  have apart : ¬ ∃ p ∈ cs, p.2 = a := fun z => by
    have e := empty a z
    rw [obj] at e
    cases (show Data.seq vs.toArray _ = Data.fields #[] from congrArg Obj.data (Option.some.inj e))
  have inner : ∀ H : Hp, (∀ b, H b = none ∨ ((∃ p ∈ cs, p.2 = b) ∧ H b = some (.tbl #[])) ∨ (b = a ∧ ∃ ob xs, H b = some (.frz ob (.lst xs)))) → (∀ p ∈ cs, H p.2 = some (.tbl #[])) → SqL K H a (ns.map V.int) → HOk P w H s₁.heap → (H a ≠ none → K.lookup a = none) →
      codeAny (model P w) callerA (.call (.ref fa) ⟨[.ref a], []⟩) (fun r s' => r = .ok (.ret (.bool true)) ∧ OldK s₁.heap s'.heap ∧ s'.os = s₁.os ∧ AllBare s'.gens) s₁ := by
    intro H kinds tabs seq hok outA
    have other : ∀ {b : Addr} {o : Obj}, s₁.heap.get? b = some o → (∀ us n, o.data ≠ .seq us n) → o.data ≠ .fields #[] → H b = none := by
      intro b o e n1 n2
      rcases kinds b with z | ⟨z, _⟩ | ⟨rfl, _⟩
      · exact z
      · rw [empty b z] at e
        cases e
        exact absurd rfl n2
      · rw [obj] at e
        cases e
        exact absurd rfl (n1 _ _)
    have nsH : ∀ {b : Addr} {m : Str → Option Value}, s₁.heap.Ns b m → (hidT s₁.heap H).Ns b m := by
      rintro b m ⟨o, es, ep, e, d, r⟩
      refine ⟨o, es, ep, hidT_get e (other e (fun us n z => ?_) fun z => ?_), d, r⟩ <;> (rw [d] at z; cases z)
    have kH : K.In (hidT s₁.heap H) := by
      intro b o e
      refine hidT_get (inK b o e) ?_
      rcases kinds b with z | ⟨⟨p, hp, rfl⟩, _⟩ | ⟨rfl, ob, xs, z⟩
      · exact z
      · rw [outT p hp] at e
        cases e
      · rw [outA (by rw [z]; intro y; cases y)] at e
        cases e
    have limH : (hidT s₁.heap H).NoLimit := by
      obtain ⟨mc, h1, h2⟩ := lim
      exact ⟨mc, nsH h1, h2⟩
    have tb : ∀ p ∈ cs, TabB (hidT s₁.heap H) mg p.1 p.2 := by
      intro p hp
      have ep := emp p hp
      refine ⟨?_, ?_, fun z => ?_⟩
      · obtain ⟨o, us, f1, t1, f2, t2, b1, n1, t3, e1, e2, e3, e4, rest⟩ := codes p hp
        refine ⟨o, us, f1, t1, f2, t2, b1, n1, t3, hidT_get e1 (other e1 (fun vs n z => ?_) fun z => ?_), e2, e3, e4, rest⟩
        · rw [e3] at z
          cases z
        · rw [e3] at z
          cases z
          simp at e4
      · obtain ⟨bm, ob, m1, m2, m3, m4, m5, m6⟩ := main
        refine ⟨bm, ob, m1, m2, fun z => ?_, fun z => ?_, hidT_get m3 (other m3 (fun vs n z => ?_) fun z => ?_), m4, m5, m6⟩
        · obtain ⟨o, es, e', e, d, _⟩ := gl
          rw [z, e] at m3
          cases m3
          rw [d] at m6
          cases m6
        · rw [z, ep] at m3
          cases m3
          cases m6
        · rw [m6] at z
          cases z
        · rw [m6] at z
          cases z
      · obtain ⟨o, es, e', e, d, _⟩ := gl
        rw [z, ep] at e
        cases e
        cases d
    have env : Env0 P w K mg (hidT s₁.heap H) callerA [] s₁ H := by
      refine ⟨rfl, ⟨kH, nsH gl, ⟨mb, nsH bl, bb⟩, limH⟩, fun b o e => of_hidT e, Nat.le_of_eq (hidT_size _ _), trivial, ?_, hok, .of_eq gens⟩
      intro b hb
      cases (show b ∈ ([] : List Addr) from hb)
    have G := F _ kH (nsH gl) tb
    refine codeAny_mono (G.go callerA [] s₁ H ⟨[.ref a], []⟩ [.ref a] [.ref a] _ _ rfl room env (bound s₁ (.ref a)) (.cons rfl .nil) (prom H tabs seq)) ?_
    intro r s' h
    cases r with
    | error e => exact False.elim h
    | ok fl => cases fl with
      | next => exact False.elim h
      | brk => exact False.elim h
      | cont => exact False.elim h
      | ret u =>
        obtain ⟨v, H', os, bare, un, hok', r', q⟩ := h
        obtain rfl : v = .bl true := q
        obtain rfl : u = Value.bool true := r'
        have grown : ∀ p ∈ cs, ∃ more : Array Value, s'.heap.get? p.2 = some (tabObj more) := by
          intro p hp
          obtain ⟨more, z⟩ := un.tbls p.2 #[] (tabs p hp)
          exact ⟨_, hok' p.2 _ z⟩
        have stays : ∀ b o, (¬ ∃ p ∈ cs, p.2 = b) → s₁.heap.get? b = some o → s'.heap.get? b = some o := by
          intro b o nb e
          rcases kinds b with z | ⟨z, _⟩ | ⟨_, ob, xs, z⟩
          · exact un.keep b o e z (fun m => by cases (show b ∈ ([] : List Addr) from m)) (fun m => by cases m)
          · exact absurd z nb
          · obtain ⟨e1, _⟩ := hok b _ z
            obtain ⟨e2, _⟩ := hok' b _ (un.frzs b ob _ z)
            rw [e] at e1
            cases e1
            exact e2
        refine ⟨rfl, ⟨fun b o e => ?_, fun b o e => ?_⟩, os, bare⟩
        · by_cases z : ∃ p ∈ cs, p.2 = b
          · obtain ⟨p, hp, rfl⟩ := z
            obtain ⟨more, hm⟩ := grown p hp
            rw [emp p hp] at e
            cases e
            exact .inr (.inl ⟨((codes p hp).tab (emp p hp)).isCodeTable, rfl, #[], more, rfl, (by rw [Array.empty_append]; exact hm)⟩)
          · exact .inl (stays b o z e)
        · by_cases z : ∃ p ∈ cs, p.2 = b
          · obtain ⟨p, hp, rfl⟩ := z
            obtain ⟨more, hm⟩ := grown p hp
            exact ⟨_, hm⟩
          · exact ⟨o, stays b o z e⟩
  classical
  cases written : K.lookup a with
  | some o =>
    have e := inK a o written
    rw [obj] at e
    cases e
    have yes : ∀ b, (∃ p ∈ cs, p.2 = b) → (fun b => if ∃ p ∈ cs, p.2 = b then some (HO.tbl #[]) else none) b = some (HO.tbl #[]) := fun b z => if_pos z
    have no : ∀ b, (¬ ∃ p ∈ cs, p.2 = b) → (fun b => if ∃ p ∈ cs, p.2 = b then some (HO.tbl #[]) else none) b = none := fun b z => if_neg z
    refine inner (fun b => if ∃ p ∈ cs, p.2 = b then some (HO.tbl #[]) else none) (fun b => ?_) (fun p hp => yes _ ⟨p, hp, rfl⟩) (Or.inr ⟨_, vs.toArray, _, written, rfl, rfl, rfl, ?_, ?_⟩) (fun b u z => ?_) (fun z => absurd (no a apart) z)
    · by_cases z : ∃ p ∈ cs, p.2 = b
      · exact Or.inr (Or.inl ⟨z, yes b z⟩)
      · exact Or.inl (no b z)
    · rw [List.size_toArray, nums.length]; exact few
    · simpa using rel
    · by_cases y : ∃ p ∈ cs, p.2 = b
      · have z' := (yes b y).symm.trans z
        cases z'
        exact empty b y
      · have z' := (no b y).symm.trans z
        cases z'
  | none =>
    have at_ : ∀ b, b = a → (fun b => if b = a then some (HO.frz { cls := .type "list", data := .seq vs.toArray } (.lst (ns.map V.int))) else if ∃ p ∈ cs, p.2 = b then some (HO.tbl #[]) else none) b = some (HO.frz { cls := .type "list", data := .seq vs.toArray } (.lst (ns.map V.int))) := fun b z => if_pos z
    have yes : ∀ b, b ≠ a → (∃ p ∈ cs, p.2 = b) → (fun b => if b = a then some (HO.frz { cls := .type "list", data := .seq vs.toArray } (.lst (ns.map V.int))) else if ∃ p ∈ cs, p.2 = b then some (HO.tbl #[]) else none) b = some (HO.tbl #[]) := fun b y z => (if_neg y).trans (if_pos z)
    have no : ∀ b, b ≠ a → (¬ ∃ p ∈ cs, p.2 = b) → (fun b => if b = a then some (HO.frz { cls := .type "list", data := .seq vs.toArray } (.lst (ns.map V.int))) else if ∃ p ∈ cs, p.2 = b then some (HO.tbl #[]) else none) b = none := fun b y z => (if_neg y).trans (if_neg z)
    have ne : ∀ b, (∃ p ∈ cs, p.2 = b) → b ≠ a := fun b z y => apart (by rw [← y]; exact z)
    refine inner (fun b => if b = a then some (HO.frz { cls := .type "list", data := .seq vs.toArray } (.lst (ns.map V.int))) else if ∃ p ∈ cs, p.2 = b then some (HO.tbl #[]) else none) (fun b => ?_) (fun p hp => yes _ (ne _ ⟨p, hp, rfl⟩) ⟨p, hp, rfl⟩) (Or.inl (Or.inr ⟨_, at_ a rfl⟩)) (fun b u z => ?_) (fun _ => written)
    · by_cases y : b = a
      · exact Or.inr (Or.inr ⟨y, _, _, at_ b y⟩)
      · by_cases z : ∃ p ∈ cs, p.2 = b
        · exact Or.inr (Or.inl ⟨z, yes b y z⟩)
        · exact Or.inl (no b y z)
    · by_cases y : b = a
      · have z' := (at_ b y).symm.trans z
        cases z'
        subst y
        exact ⟨obj, by rw [List.length_map]; exact few, vs, _, rel, obj⟩
      · by_cases y2 : ∃ p ∈ cs, p.2 = b
        · have z' := (yes b y y2).symm.trans z
          cases z'
          exact empty b y2
        · have z' := (no b y y2).symm.trans z
          cases z'
theorem walkGT {l : PySem.W.OpenLaw} {n k : Nat} {q : Program} {loose : List Str} {XP : (Str → Option Value) → Heap → Prop} {YP : World → Heap → Prop}
    {d : DefRec} {K : Params → PySem.W.Frag} {sp : List (Addr × Addr) → PySem.W.Frag → Sp} {x : Str} (names : List Str) (most : l.most = some n) (few : n ≤ sizeLine)
    (plain : d.params.defaults = []) (room : Room k callerA) (inK : ∀ (w : World) (h : Heap), YP w h → (K w.params).In h) (recs : ∀ y ∈ names, ((recsOf q).find? fun e => e.name == y).isSome = true)
    (F : ∀ (w : World) (mg : Str → Option Value) (fa : Addr) (h : Heap), (K w.params).In h → h.Ns mainGlobals mg → mg d.name = some (.ref fa) →
      ∃ (cs : List (Addr × Addr)) (fd : FuncData), (∀ p ∈ cs, ∃ y ∈ names, tabIn (K w.params) y = some p) ∧ (∀ p ∈ cs, (K w.params).lookup p.2 = none) ∧ (∀ (s : Shared) (u : Value), BindsTo s fd ⟨[u], []⟩ [(x, u)]) ∧
        (∀ base : Heap, (K w.params).In base → base.Ns mainGlobals mg → (∀ p ∈ cs, TabB base mg p.1 p.2) → FnG l.prog w (K w.params) mg base k fa fd [x] (sp cs (K w.params))))
    (prom : ∀ (cs : List (Addr × Addr)) (K : PySem.W.Frag) (H : Hp) (a : Addr) (ns : List Int), ns.length ≤ n → (∀ p ∈ cs, H p.2 = some (.tbl #[])) → SqL K H a (ns.map V.int) →
      sp cs K [.ref a] H (fun v _ => v = .bl true) E0) :
    PySem.W.WalkO q loose XP YP l.row.toRowW d [] (fun f vs => PySem.call f vs) := by
  refine Att.attach_call most plain ?_
  intro w s₀ s₁ mg mb fa o pm cd doc a vs ns G Y ho hd hcd named obj nums len gens
  obtain ⟨cs, fd, from_, out, bound, hF⟩ := F w mg fa _ (inK w _ Y) G.T.g named
  have tabs : ∀ p ∈ cs, CodeHd s₁.heap p.1 p.2 ∧ s₁.heap.get? p.2 = some (tabObj #[]) := by
    intro p hp
    obtain ⟨y, hy, e⟩ := from_ p hp
    obtain ⟨r, hr⟩ := Option.isSome_iff_exists.mp (recs y hy)
    exact tab_of G.T (inK w _ Y) hr e
  exact lawGT (inK w _ Y) G.T.g G.T.b G.T.builtins G.T.nolimit gens (fun p hp => (tabs p hp).2) out (fun p hp => (tabs p hp).1) G.T.bmain obj nums (Nat.le_trans len few) room hF bound
    (fun H em seq => prom cs (K w.params) H a ns len em seq)
end SL
namespace DL
open PySem PySem.Spec PyProof.Rows L2 LamX PySem.W SL
inductive D where
  | non | bl (b : Bool) | int (i : Int) | str (x : Str) | tup (ds : List D) | tuk (ds : List D) | lst (ds : List D) | scr (ds : List D) | ref (n : Nat)
inductive O where
  | lst (ds : List D)
  | dK (kvs : List (Key × D))
  | dT (kvs : List (List Key × D))
abbrev DSt := List O
abbrev DEnv := List (Option D)
abbrev DK := D → DSt → Prop
structure Pl where
  h : Nat
  m : List Addr
def Pl.at_ (M : Pl) (n : Nat) : Option Addr := M.m[M.h + n]?
def Pl.app (M : Pl) (l : List Addr) : Pl := ⟨M.h, M.m ++ l⟩
mutual
inductive RV (K : PySem.W.Frag) (M : Pl) (H : Hp) : D → V → Prop
  | non : RV K M H .non .non
  | bl (b : Bool) : RV K M H (.bl b) (.bl b)
  | int (i : Int) : RV K M H (.int i) (.int i)
  | str (x : Str) : RV K M H (.str x) (.str x)
  | tup {a : Addr} {ob : Obj} {xs : List V} {ds : List D} : a ∉ M.m → H a = some (.frz ob (.tup xs)) → ob.dict = none → RVs K M H ds xs → RV K M H (.tup ds) (.ref a)
  | tuk {a : Addr} {xs : List V} {ds : List D} : a ∉ M.m → H a = some (.tup xs) → RVs K M H ds xs → RV K M H (.tuk ds) (.ref a)
  | lst {a : Addr} {xs : List V} {ds : List D} : a ∉ M.m → H a = some (.lst xs) → RVs K M H ds xs → RV K M H (.lst ds) (.ref a)
  | scr {a : Addr} {xs : List V} {ds : List D} : a ∉ M.m → Rd H a (.lst xs) → RVs K M H ds xs → RV K M H (.scr ds) (.ref a)
  | lsk {a : Addr} {xs : List V} {ds : List D} : (∀ G : Hp, SqL K G a xs) → RVs K M H ds xs → RV K M H (.scr ds) (.ref a)
  | ref {n : Nat} {a : Addr} : M.at_ n = some a → RV K M H (.ref n) (.ref a)
inductive RVs (K : PySem.W.Frag) (M : Pl) (H : Hp) : List D → List V → Prop
  | nil : RVs K M H [] []
  | cons {d : D} {v : V} {ds : List D} {vs : List V} : RV K M H d v → RVs K M H ds vs → RVs K M H (d :: ds) (v :: vs)
end
def NT (H : Hp) (a : Addr) : Prop := ∃ o, H a = some o ∧ ∀ ps, o ≠ .tbl ps
theorem NT.no {H : Hp} {a : Addr} (h : H a = none) : ¬ NT H a := fun ⟨o, e, _⟩ => by rw [h] at e; cases e
theorem NT.upd {H : Hp} {a p : Addr} {o : HO} (h : NT H a) (ne : a ≠ p) : NT (upd H p o) a := by
  obtain ⟨u, e, n⟩ := h
  exact ⟨u, by rw [upd_ne ne]; exact e, n⟩
theorem NT.ne {H : Hp} {a p : Addr} (h : NT H a) (np : H p = none) : a ≠ p := fun z => NT.no np (by rw [← z]; exact h)
structure Grow (M : Pl) (H : Hp) (M' : Pl) (H' : Hp) : Prop where
  more : ∃ m, M' = M.app m ∧ ∀ a ∈ m, ¬ NT H a
  keep : ∀ a o, a ∉ M.m → H a = some o → (∀ ps, o ≠ .tbl ps) → H' a = some o
  there : ∀ a, NT H a → NT H' a
  hid : ∀ a ∈ M.m.take M.h, H' a = H a
theorem Pl.app_nil (M : Pl) : M.app [] = M := by unfold Pl.app; rw [List.append_nil]
theorem Grow.refl (M : Pl) (H : Hp) : Grow M H M H := ⟨⟨[], (Pl.app_nil M).symm, fun _ h => nomatch h⟩, fun _ _ _ h _ => h, fun _ h => h, fun _ _ => rfl⟩
theorem Grow.notin {M M' : Pl} {H H' : Hp} (g : Grow M H M' H') {a : Addr} (h : a ∉ M.m) (t : NT H a) : a ∉ M'.m := by
  obtain ⟨m, rfl, fr⟩ := g.more
  intro z
  rcases List.mem_append.mp z with z | z
  · exact h z
  · exact fr a z t
theorem take_app {M : Pl} {m : List Addr} {a : Addr} (h : a ∈ M.m.take M.h) : a ∈ (M.app m).m.take (M.app m).h := by
  show a ∈ (M.m ++ m).take M.h
  rw [List.take_append]
  exact List.mem_append_left _ h
theorem Grow.trans {M M1 M2 : Pl} {H H1 H2 : Hp} (a : Grow M H M1 H1) (b : Grow M1 H1 M2 H2) : Grow M H M2 H2 := by
  refine ⟨?_, fun c o n h t => ?_, fun c h => b.there c (a.there c h), fun c hc => ?_⟩
  · obtain ⟨m1, rfl, f1⟩ := a.more
    obtain ⟨m2, rfl, f2⟩ := b.more
    refine ⟨m1 ++ m2, by unfold Pl.app; simp, fun c hc => ?_⟩
    rcases List.mem_append.mp hc with z | z
    · exact f1 c z
    · exact fun q => f2 c z (a.there c q)
  · exact b.keep c o (a.notin n ⟨o, h, t⟩) (a.keep c o n h t) t
  · obtain ⟨m1, rfl, f1⟩ := id a.more
    exact (b.hid c (take_app hc)).trans (a.hid c hc)
theorem Grow.get {M M' : Pl} {H H' : Hp} (g : Grow M H M' H') {n : Nat} {a : Addr} (h : M.at_ n = some a) : M'.at_ n = some a := by
  obtain ⟨m, rfl, _⟩ := g.more
  unfold Pl.at_ at h ⊢
  show (M.m ++ m)[M.h + n]? = some a
  rw [List.getElem?_append_left (List.getElem?_eq_some_iff.mp h).1]
  exact h
theorem Pl.at_mem {M : Pl} {n : Nat} {a : Addr} (h : M.at_ n = some a) : a ∈ M.m := List.mem_of_getElem? h

def HidOk (M : Pl) (H : Hp) : Prop := ∀ a ∈ M.m.take M.h, ∃ xs, H a = some (.lst xs)
theorem Grow.new {M : Pl} {H : Hp} {p : Addr} {o : HO} (ho : HidOk M H) (h : H p = none) : Grow M H M (upd H p o) :=
  ⟨⟨[], (Pl.app_nil M).symm, fun _ h => nomatch h⟩, fun a u _ e _ => by rw [upd_ne (ne_of_none e h)]; exact e, fun a e => e.upd (e.ne h), fun a ha => by
    obtain ⟨xs, e⟩ := ho a ha
    exact upd_ne (ne_of_none e h)⟩
theorem Grow.place {M : Pl} {H : Hp} {p : Addr} {o : HO} (ho : HidOk M H) (h : H p = none) : Grow M H (M.app [p]) (upd H p o) :=
  ⟨⟨[p], rfl, fun a ha => by rw [List.mem_singleton.mp ha]; exact NT.no h⟩, (Grow.new ho h).keep, (Grow.new ho h).there, (Grow.new ho h).hid⟩
theorem Grow.write {M : Pl} {H : Hp} {n : Nat} {p : Addr} {o : HO} (nd : M.m.Nodup) (hp : M.at_ n = some p) (no : ∀ ps, o ≠ .tbl ps := by intro ps z; cases z) : Grow M H M (upd H p o) :=
  ⟨⟨[], (Pl.app_nil M).symm, fun _ h => nomatch h⟩, fun a u n e _ => by rw [upd_ne (fun z : a = p => n (by rw [z]; exact Pl.at_mem hp))]; exact e, fun a e => by
    by_cases z : a = p
    · rw [z]; exact ⟨o, upd_same, no⟩
    · exact e.upd z, fun a ha => by
    refine upd_ne fun z => ?_
    subst z
    obtain ⟨i, hi⟩ := List.mem_iff_getElem?.mp ha
    rw [List.getElem?_take] at hi
    split at hi
    · obtain ⟨l1, q1⟩ := List.getElem?_eq_some_iff.mp hi
      obtain ⟨l2, q2⟩ := List.getElem?_eq_some_iff.mp hp
      have := (List.getElem_inj nd).mp (q1.trans q2.symm)
      omega
    · cases hi⟩
theorem Rd.grow {M M' : Pl} {H H' : Hp} (g : Grow M H M' H') {a : Addr} {xs : List V} (n : a ∉ M.m) (r : Rd H a (.lst xs)) : Rd H' a (.lst xs) := by
  rcases r with r | ⟨o, r⟩
  · exact .inl (g.keep a _ n r (fun ps z => by cases z))
  · exact .inr ⟨o, g.keep a _ n r (fun ps z => by cases z)⟩
theorem Rd.there {H : Hp} {a : Addr} {xs : List V} (r : Rd H a (.lst xs)) : NT H a := by
  rcases r with r | ⟨o, r⟩ <;> exact ⟨_, r, fun ps z => by cases z⟩
mutual
theorem RV.grow {K : PySem.W.Frag} {M M' : Pl} {H H' : Hp} (g : Grow M H M' H') : ∀ {d : D} {v : V}, RV K M H d v → RV K M' H' d v
  | _, _, .non => .non
  | _, _, .bl b => .bl b
  | _, _, .int i => .int i
  | _, _, .str x => .str x
  | _, _, .tup n h e r => .tup (g.notin n ⟨_, h, fun ps z => by cases z⟩) (g.keep _ _ n h (fun ps z => by cases z)) e (r.grow g)
  | _, _, .tuk n h r => .tuk (g.notin n ⟨_, h, fun ps z => by cases z⟩) (g.keep _ _ n h (fun ps z => by cases z)) (r.grow g)
  | _, _, .lst n h r => .lst (g.notin n ⟨_, h, fun ps z => by cases z⟩) (g.keep _ _ n h (fun ps z => by cases z)) (r.grow g)
  | _, _, .scr n h r => .scr (g.notin n (Rd.there h)) (Rd.grow g n h) (r.grow g)
  | _, _, .lsk h r => .lsk h (r.grow g)
  | _, _, .ref h => .ref (g.get h)
theorem RVs.grow {K : PySem.W.Frag} {M M' : Pl} {H H' : Hp} (g : Grow M H M' H') : ∀ {d : List D} {v : List V}, RVs K M H d v → RVs K M' H' d v
  | _, _, .nil => .nil
  | _, _, .cons h t => .cons (h.grow g) (t.grow g)
end
def RO (K : PySem.W.Frag) (M : Pl) (H : Hp) : O → Addr → Prop
  | .lst ds, a => ∃ xs, H a = some (.lst xs) ∧ RVs K M H ds xs
  | .dK kvs, a => ∃ ys : List (Key × V), H a = some (.dK ys) ∧ kvs.map (·.1) = ys.map (·.1) ∧ RVs K M H (kvs.map (·.2)) (ys.map (·.2))
  | .dT kvs, a => ∃ ys : List (List Key × V), H a = some (.dT ys) ∧ kvs.map (·.1) = ys.map (·.1) ∧ RVs K M H (kvs.map (·.2)) (ys.map (·.2))
structure RS (T : List (Addr × Str)) (K : PySem.W.Frag) (M : Pl) (st : DSt) (H : Hp) : Prop where
  len : M.m.length = M.h + st.length
  nd : M.m.Nodup
  obj : ∀ (n : Nat) (a : Addr) (o : O), M.at_ n = some a → st[n]? = some o → RO K M H o a
  tabs : Tabs T H
  hid : HidOk M H
structure RE (K : PySem.W.Frag) (M : Pl) (H : Hp) (r : DEnv) (σ : L2.St) : Prop where
  len : r.length = σ.length
  at_ : ∀ (i : Nat) (d : D), r[i]? = some (some d) → ∃ v, σ[i]? = some (some v) ∧ RV K M H d v
theorem RE.grow {K : PySem.W.Frag} {M M' : Pl} {H H' : Hp} {r : DEnv} {σ : L2.St} (h : RE K M H r σ) (g : Grow M H M' H') : RE K M' H' r σ :=
  ⟨h.len, fun i d e => by obtain ⟨v, e1, e2⟩ := h.at_ i d e; exact ⟨v, e1, e2.grow g⟩⟩
theorem RO.stay {K : PySem.W.Frag} {M M' : Pl} {H H' : Hp} (g : Grow M H M' H') {o : O} {a : Addr} (h : RO K M H o a) (e : H' a = H a) : RO K M' H' o a := by
  cases o with
  | lst ds => obtain ⟨xs, h1, h2⟩ := h; exact ⟨xs, e.trans h1, h2.grow g⟩
  | dK kvs => obtain ⟨ys, h1, h2, h3⟩ := h; exact ⟨ys, e.trans h1, h2, h3.grow g⟩
  | dT kvs => obtain ⟨ys, h1, h2, h3⟩ := h; exact ⟨ys, e.trans h1, h2, h3.grow g⟩
theorem RO.mut {K : PySem.W.Frag} {M : Pl} {H : Hp} {o : O} {a : Addr} (h : RO K M H o a) : (∃ xs, H a = some (.lst xs)) ∨ (∃ xs, H a = some (.dK xs)) ∨ ∃ xs, H a = some (.dT xs) := by
  cases o with
  | lst ds => obtain ⟨xs, h1, h2⟩ := h; exact .inl ⟨_, h1⟩
  | dK kvs => obtain ⟨ys, h1, h2, h3⟩ := h; exact .inr (.inl ⟨_, h1⟩)
  | dT kvs => obtain ⟨ys, h1, h2, h3⟩ := h; exact .inr (.inr ⟨_, h1⟩)
theorem RS.atM {T : List (Addr × Str)} {K : PySem.W.Frag} {M : Pl} {st : DSt} {H : Hp} (h : RS T K M st H) {n : Nat} {a : Addr} (e : M.at_ n = some a) : ∃ o, st[n]? = some o ∧ RO K M H o a := by
  have lt : n < st.length := by
    have := (List.getElem?_eq_some_iff.mp e).1
    have := h.len
    omega
  exact ⟨st[n], List.getElem?_eq_getElem lt, h.obj n a _ e (List.getElem?_eq_getElem lt)⟩
theorem RS.addr {T : List (Addr × Str)} {K : PySem.W.Frag} {M : Pl} {st : DSt} {H : Hp} (h : RS T K M st H) {n : Nat} {o : O} (e : st[n]? = some o) : ∃ a, M.at_ n = some a ∧ RO K M H o a := by
  have lt : M.h + n < M.m.length := by
    rw [h.len]
    have := (List.getElem?_eq_some_iff.mp e).1
    omega
  exact ⟨M.m[M.h + n], List.getElem?_eq_getElem lt, h.obj n _ o (List.getElem?_eq_getElem lt) e⟩
theorem RS.mutAt {T : List (Addr × Str)} {K : PySem.W.Frag} {M : Pl} {st : DSt} {H : Hp} (h : RS T K M st H) {a : Addr} (ha : a ∈ M.m) : (∃ xs, H a = some (.lst xs)) ∨ (∃ xs, H a = some (.dK xs)) ∨ ∃ xs, H a = some (.dT xs) := by
  obtain ⟨n, hn⟩ := List.mem_iff_getElem?.mp ha
  by_cases lt : n < M.h
  · refine .inl (h.hid a ?_)
    refine List.mem_of_getElem? (i := n) ?_
    rw [List.getElem?_take, if_pos lt]
    exact hn
  · obtain ⟨o, _, ro⟩ := h.atM (n := n - M.h) (a := a) (by
      unfold Pl.at_
      rw [show M.h + (n - M.h) = n by omega]
      exact hn)
    exact ro.mut
theorem RS.tabNe {T : List (Addr × Str)} {K : PySem.W.Frag} {M : Pl} {st : DSt} {H : Hp} (h : RS T K M st H) {a b : Addr} (ha : a ∈ M.m) {u : HO} (hb : H b = some u) (hu : (∃ ps, u = .tbl ps) ∨ ∃ φ, u = .ext φ) : a ≠ b := by
  intro z
  subst z
  rcases h.mutAt ha with ⟨xs, q⟩ | ⟨xs, q⟩ | ⟨xs, q⟩ <;> rw [hb] at q <;> rcases hu with ⟨ps, rfl⟩ | ⟨φ, rfl⟩ <;> cases q
theorem tabs_upd {T : List (Addr × Str)} {H : Hp} {p : Addr} {o : HO} (t : Tabs T H) (h : ∀ b u, H b = some u → ((∃ ps, u = .tbl ps) ∨ ∃ φ, u = .ext φ) → b ≠ p) : Tabs T (upd H p o) := by
  intro q hq
  obtain ⟨ps, h1, h2, h3⟩ := t q hq
  refine ⟨ps, ?_, h2, fun pos cv hc => ?_⟩
  · rw [upd_ne (h _ _ h1 (.inl ⟨ps, rfl⟩))]
    exact h1
  · obtain ⟨c, e1, e2⟩ := h3 pos cv hc
    refine ⟨c, e1, ?_⟩
    rw [upd_ne (h _ _ e2 (.inr ⟨_, rfl⟩))]
    exact e2
theorem RS.notin {T : List (Addr × Str)} {K : PySem.W.Frag} {M : Pl} {st : DSt} {H : Hp} (h : RS T K M st H) {p : Addr} (np : H p = none) : p ∉ M.m := by
  intro z
  rcases h.mutAt z with ⟨xs, q⟩ | ⟨xs, q⟩ | ⟨xs, q⟩ <;> rw [np] at q <;> cases q
theorem HidOk.upd {M : Pl} {H : Hp} {p : Addr} {o : HO} (h : HidOk M H) (np : H p = none) : HidOk M (upd H p o) := fun a ha => by
  obtain ⟨xs, e⟩ := h a ha
  exact ⟨xs, by rw [upd_ne (ne_of_none e np)]; exact e⟩
theorem HidOk.keep {M M' : Pl} {H H' : Hp} (h : HidOk M H) (g : Grow M H M' H') : HidOk M H' := fun a ha => by
  rw [g.hid a ha]
  exact h a ha
theorem RS.new {T : List (Addr × Str)} {K : PySem.W.Frag} {M : Pl} {st : DSt} {H : Hp} (h : RS T K M st H) {p : Addr} {o : HO} (np : H p = none) : RS T K M st (upd H p o) := by
  refine ⟨h.len, h.nd, fun n a u e1 e2 => ?_, tabs_upd h.tabs fun b u hb _ => ne_of_none hb np, h.hid.upd np⟩
  exact (h.obj n a u e1 e2).stay (Grow.new h.hid np) (upd_ne fun z => h.notin np (by rw [← z]; exact Pl.at_mem e1))
theorem RS.place {T : List (Addr × Str)} {K : PySem.W.Frag} {M : Pl} {st : DSt} {H : Hp} (h : RS T K M st H) {p : Addr} {o : HO} {u : O} (np : H p = none) (ro : RO K (M.app [p]) (upd H p o) u p) : RS T K (M.app [p]) (st ++ [u]) (upd H p o) := by
  refine ⟨?_, ?_, fun n a q e1 e2 => ?_, tabs_upd h.tabs fun b u hb _ => ne_of_none hb np, ?_⟩
  · show (M.m ++ [p]).length = M.h + (st ++ [u]).length
    rw [List.length_append, List.length_append, h.len, Nat.add_assoc]
    rfl
  · show (M.m ++ [p]).Nodup
    rw [List.nodup_append]
    refine ⟨h.nd, by simp, fun a ha b hb => ?_⟩
    rw [List.mem_singleton.mp hb]
    exact fun z => h.notin np (z ▸ ha)
  · have e1' : (M.m ++ [p])[M.h + n]? = some a := e1
    by_cases lt : n < st.length
    · rw [List.getElem?_append_left (by rw [h.len]; omega)] at e1'
      rw [List.getElem?_append_left lt] at e2
      exact (h.obj n a q e1' e2).stay (Grow.place h.hid np) (upd_ne fun z => h.notin np (by rw [← z]; exact List.mem_of_getElem? e1'))
    · rw [List.getElem?_append_right (by rw [h.len]; omega)] at e1'
      rw [List.getElem?_append_right (by omega)] at e2
      have n0 : M.h + n - M.m.length = 0 := by
        have := (List.getElem?_eq_some_iff.mp e1').1
        simp at this
        omega
      have n1 : n - st.length = 0 := by rw [h.len] at n0; omega
      rw [n0] at e1'
      rw [n1] at e2
      cases e1'
      cases e2
      exact ro
  · intro a ha
    have ha' : a ∈ (M.m ++ [p]).take M.h := ha
    rw [List.take_append_of_le_length (by rw [h.len]; omega)] at ha'
    exact h.hid.upd np a ha'
theorem RS.write {T : List (Addr × Str)} {K : PySem.W.Frag} {M : Pl} {st : DSt} {H : Hp} (h : RS T K M st H) {n : Nat} {p : Addr} {o : HO} {u : O} (hp : M.at_ n = some p) (ro : RO K M (upd H p o) u p) (no : ∀ ps, o ≠ .tbl ps := by intro ps z; cases z) : RS T K M (st.set n u) (upd H p o) := by
  have pm : p ∈ M.m := Pl.at_mem hp
  refine ⟨by rw [List.length_set]; exact h.len, h.nd, fun m a q e1 e2 => ?_, tabs_upd h.tabs fun b u hb z => (h.tabNe pm hb z).symm, h.hid.keep (Grow.write h.nd hp no)⟩
  by_cases e : m = n
  · subst e
    rw [hp] at e1
    cases e1
    rw [List.getElem?_set_self (by
      have := (List.getElem?_eq_some_iff.mp hp).1
      have := h.len
      omega)] at e2
    cases e2
    exact ro
  · rw [List.getElem?_set_ne (fun z => e z.symm)] at e2
    refine (h.obj m a q e1 e2).stay (Grow.write h.nd hp no) (upd_ne fun z => e ?_)
    subst z
    obtain ⟨l1, q1⟩ := List.getElem?_eq_some_iff.mp e1
    obtain ⟨l2, q2⟩ := List.getElem?_eq_some_iff.mp hp
    have := (List.getElem_inj h.nd).mp (q1.trans q2.symm)
    omega
end DL
namespace DL
open PySem PySem.Spec PyProof.Rows L2 LamX PySem.W SL
abbrev DTE := DEnv → DSt → DK → Prop
abbrev DTA := DEnv → DSt → (List D → DSt → Prop) → Prop
abbrev DTT := DEnv → DSt → (Bool → DSt → Prop) → Prop
abbrev DR2 := D → D → DSt → DK → Prop
abbrev DRs := List D → DSt → DK → Prop
def Kn (T : List (Addr × Str)) (K : Frag) (M : Pl) (H : Hp) (Q' : DK) (Q : VK) : Prop :=
  ∀ M' H' st' d v, Grow M H M' H' → RS T K M' st' H' → RV K M' H' d v → Q' d st' → Q v H'
theorem Kn.grow {T : List (Addr × Str)} {K : Frag} {M M1 : Pl} {H H1 : Hp} {Q' : DK} {Q : VK} (k : Kn T K M H Q' Q) (g : Grow M H M1 H1) : Kn T K M1 H1 Q' Q :=
  fun M' H' st' d v g1 s r q => k M' H' st' d v (g.trans g1) s r q
theorem Kn.here {T : List (Addr × Str)} {K : Frag} {M : Pl} {H : Hp} {Q' : DK} {Q : VK} {st : DSt} {d : D} {v : V} (k : Kn T K M H Q' Q) (s : RS T K M st H) (r : RV K M H d v) (q : Q' d st) : Q v H :=
  k M H st d v (Grow.refl M H) s r q
def lift (T : List (Addr × Str)) (K : Frag) (f : DTE) : TE := fun σ H Q => ∃ M r st Q', RS T K M st H ∧ RE K M H r σ ∧ f r st Q' ∧ Kn T K M H Q' Q
def liftA (T : List (Addr × Str)) (K : Frag) (f : DTA) : TA := fun σ H Q => ∃ M r st Q', RS T K M st H ∧ RE K M H r σ ∧ f r st Q' ∧
  ∀ M' H' st' ds vs, Grow M H M' H' → RS T K M' st' H' → RVs K M' H' ds vs → Q' ds st' → Q vs H'
def liftT (T : List (Addr × Str)) (K : Frag) (f : DTT) : TT := fun σ H Q => ∃ M r st Q', RS T K M st H ∧ RE K M H r σ ∧ f r st Q' ∧
  ∀ M' H' st' b, Grow M H M' H' → RS T K M' st' H' → Q' b st' → Q b H'
theorem PE.imp {X : Cx} {e : Expr} {t t' : TE} (h : PE X e t) (i : ∀ σ H Q, t' σ H Q → t σ H Q) : PE X e t' := ⟨fun pins s σ H Q I z => h.run pins s σ H Q I (i σ H Q z)⟩
theorem PA.imp {X : Cx} {e : List Expr} {t t' : TA} (h : PA X e t) (i : ∀ σ H Q, t' σ H Q → t σ H Q) : PA X e t' := ⟨fun pos pins s σ H Q I z => h.run pos pins s σ H Q I (i σ H Q z)⟩
theorem PT.imp {X : Cx} {e : Expr} {t t' : TT} (h : PT X e t) (i : ∀ σ H Q, t' σ H Q → t σ H Q) : PT X e t' := ⟨fun pins s σ H Q I z => h.run pins s σ H Q I (i σ H Q z)⟩
theorem PW.imp {X : Cx} {e : Expr} {t t' : TT} (h : PW X e t) (i : ∀ σ H Q, t' σ H Q → t σ H Q) : PW X e t' := ⟨fun wh pins s σ H Q I z => h.run wh pins s σ H Q I (i σ H Q z)⟩
theorem PS.imp {X : Cx} {e : Stmt} {t t' : TS} (h : PS X e t) (i : ∀ D σ H, t' D σ H → t D σ H) : PS X e t' := ⟨fun pins s σ H D I z => h.run pins s σ H D I (i D σ H z)⟩
theorem PSs.imp {X : Cx} {e : List Stmt} {t t' : TS} (h : PSs X e t) (i : ∀ D σ H, t' D σ H → t D σ H) : PSs X e t' := ⟨fun pins s σ H D I z => h.run pins s σ H D I (i D σ H z)⟩
abbrev DE (T : List (Addr × Str)) (X : Cx) (e : Expr) (f : DTE) : Prop := PE X e (lift T X.K f)
abbrev DA (T : List (Addr × Str)) (X : Cx) (e : List Expr) (f : DTA) : Prop := PA X e (liftA T X.K f)
abbrev DT (T : List (Addr × Str)) (X : Cx) (e : Expr) (f : DTT) : Prop := PT X e (liftT T X.K f)
abbrev DW (T : List (Addr × Str)) (X : Cx) (e : Expr) (f : DTT) : Prop := PW X e (liftT T X.K f)

def onI (d : D) (k : Int → Prop) : Prop := match d with | .int i => k i | _ => False
def onB (d : D) (k : Bool → Prop) : Prop := match d with | .bl i => k i | _ => False
def onO {α : Type} (o : Option α) (k : α → Prop) : Prop := match o with | some d => k d | none => False
def onOO (o : Option (Option D)) (k : D → Prop) : Prop := match o with | some (some d) => k d | _ => False
theorem onI.of {d : D} {k : Int → Prop} (h : onI d k) : ∃ i, d = .int i ∧ k i := by
  cases d with
  | int i => exact ⟨i, rfl, h⟩
  | _ => exact h.elim
theorem onB.of {d : D} {k : Bool → Prop} (h : onB d k) : ∃ i, d = .bl i ∧ k i := by
  cases d with
  | bl i => exact ⟨i, rfl, h⟩
  | _ => exact h.elim
theorem onO.of {α : Type} {d : Option α} {k : α → Prop} (h : onO d k) : ∃ i, d = some i ∧ k i := by
  cases d with
  | some i => exact ⟨i, rfl, h⟩
  | none => exact h.elim
theorem onOO.of {d : Option (Option D)} {k : D → Prop} (h : onOO d k) : ∃ i, d = some (some i) ∧ k i := by
  cases d with
  | none => exact h.elim
  | some o => cases o with
    | none => exact h.elim
    | some i => exact ⟨i, rfl, h⟩
def seqS (st : DSt) : D → Option (List D)
  | .tup ds => some ds
  | .tuk ds => some ds
  | .lst ds => some ds
  | .scr ds => some ds
  | .ref n => match st[n]? with | some (.lst ds) => some ds | _ => none
  | _ => none
section
variable {T : List (Addr × Str)} {K : Frag} {M : Pl} {H : Hp} {st : DSt}
theorem RVs.length : ∀ {ds : List D} {vs : List V}, RVs K M H ds vs → ds.length = vs.length
  | _, _, .nil => rfl
  | _, _, .cons _ t => by rw [List.length_cons, List.length_cons, RVs.length t]
theorem RVs.get : ∀ {ds : List D} {vs : List V}, RVs K M H ds vs → ∀ {i : Nat} {d : D}, ds[i]? = some d → ∃ v, vs[i]? = some v ∧ RV K M H d v
  | _, _, .nil, i, d, e => by simp at e
  | _, _, .cons h t, 0, d, e => by
    simp at e
    subst e
    exact ⟨_, rfl, h⟩
  | _, _, .cons h t, i + 1, d, e => by
    obtain ⟨v, e1, e2⟩ := RVs.get t (i := i) (d := d) (by simpa using e)
    exact ⟨v, by simpa using e1, e2⟩
theorem RVs.append : ∀ {ds es : List D} {vs ws : List V}, RVs K M H ds vs → RVs K M H es ws → RVs K M H (ds ++ es) (vs ++ ws)
  | _, _, _, _, .nil, s => s
  | _, _, _, _, .cons h t, s => .cons h (RVs.append t s)
theorem RVs.take : ∀ {ds : List D} {vs : List V} (n : Nat), RVs K M H ds vs → RVs K M H (ds.take n) (vs.take n)
  | _, _, 0, _ => .nil
  | _, _, _ + 1, .nil => .nil
  | _, _, n + 1, .cons h t => .cons h (RVs.take n t)
theorem RVs.drop : ∀ {ds : List D} {vs : List V} (n : Nat), RVs K M H ds vs → RVs K M H (ds.drop n) (vs.drop n)
  | _, _, 0, h => h
  | _, _, _ + 1, .nil => .nil
  | _, _, n + 1, .cons _ t => RVs.drop n t
theorem RVs.set {d : D} {v : V} (h : RV K M H d v) : ∀ {ds : List D} {vs : List V} (n : Nat), RVs K M H ds vs → RVs K M H (ds.set n d) (vs.set n v)
  | _, _, _, .nil => .nil
  | _, _, 0, .cons _ t => .cons h t
  | _, _, n + 1, .cons q t => .cons q (RVs.set h n t)
theorem RVs.eraseIdx : ∀ {ds : List D} {vs : List V} (n : Nat), RVs K M H ds vs → RVs K M H (ds.eraseIdx n) (vs.eraseIdx n)
  | _, _, _, .nil => .nil
  | _, _, 0, .cons _ t => t
  | _, _, n + 1, .cons q t => .cons q (RVs.eraseIdx n t)
theorem RVs.ints : ∀ {ns : List Int} {vs : List V}, RVs K M H (ns.map D.int) vs → vs = ns.map V.int
  | [], _, .nil => rfl
  | n :: ns, _, .cons (.int _) t => by rw [RVs.ints t]; rfl
theorem RVs.of_ints : ∀ ns : List Int, RVs K M H (ns.map D.int) (ns.map V.int)
  | [] => .nil
  | n :: ns => .cons (.int n) (RVs.of_ints ns)
theorem RVs.bls : ∀ {ns : List Bool} {vs : List V}, RVs K M H (ns.map D.bl) vs → vs = ns.map V.bl
  | [], _, .nil => rfl
  | n :: ns, _, .cons (.bl _) t => by rw [RVs.bls t]; rfl
theorem RVs.nil_iff {ds : List D} {vs : List V} (r : RVs K M H ds vs) : ds = [] ↔ vs = [] := by
  cases r with
  | nil => simp
  | cons _ _ => simp
theorem seqS.rd {d : D} {v : V} {ds : List D} (s : RS T K M st H) (r : RV K M H d v) (e : seqS st d = some ds) : ∃ a xs, v = .ref a ∧ (SqL K H a xs ∨ SqT K H a xs) ∧ RVs K M H ds xs := by
  cases r with
  | tup n h q rs => cases e; exact ⟨_, _, rfl, .inr (.inl (.inr ⟨_, h⟩)), rs⟩
  | tuk n h rs => cases e; exact ⟨_, _, rfl, .inr (.inl (.inl h)), rs⟩
  | lst n h rs => cases e; exact ⟨_, _, rfl, .inl (.inl (.inl h)), rs⟩
  | scr n h rs => cases e; exact ⟨_, _, rfl, .inl (.inl h), rs⟩
  | lsk h rs => cases e; exact ⟨_, _, rfl, .inl (h H), rs⟩
  | ref h =>
    obtain ⟨o, e1, ro⟩ := s.atM h
    unfold seqS at e
    simp only [e1] at e
    cases o with
    | lst xs => cases e; obtain ⟨ys, q, rs⟩ := ro; exact ⟨_, ys, rfl, .inl (.inl (.inl q)), rs⟩
    | dK _ => cases e
    | dT _ => cases e
  | _ => cases e
end
def dVar (i : Nat) : DTE := fun r st Q => onOO r[i]? fun d => Q d st
def dC (d : D) : DTE := fun _ st Q => Q d st
section
variable {T : List (Addr × Str)} {X : Cx}
theorem de_var {i : Nat} {e : Expr} (h : PE X e (tVar i)) : DE T X e (dVar i) := PE.imp h fun σ H Q ⟨M, r, st, Q', s, re, hf, k⟩ => by
  obtain ⟨d, e, q⟩ := onOO.of hf
  obtain ⟨v, e1, rv⟩ := re.at_ i d e
  exact ⟨v, e1, k.here s rv q⟩
theorem de_const {e : Expr} {d : D} {v : V} (h : PE X e (tC v)) (r : ∀ M H, RV X.K M H d v) : DE T X e (dC d) := PE.imp h fun σ H Q ⟨M, rr, st, Q', s, re, hf, k⟩ => k.here s (r M H) hf
theorem de_int {i j pos} : DE T X (.Constant (.int i) j pos) (dC (.int i)) := de_const pe_int fun _ _ => .int i
theorem de_bl {i j pos} : DE T X (.Constant (.bool i) j pos) (dC (.bl i)) := de_const pe_bl fun _ _ => .bl i
theorem de_non {j pos} : DE T X (.Constant .none j pos) (dC .non) := de_const pe_non fun _ _ => .non
theorem de_globI {x : Str} {i : Int} {u : Value} {pos : Pos} (hg : Gl X x) (hm : X.mg x = some u) (r : RelV (.int i) u) (hd : (x == ("__debug__" : Str)) = false := by decide) : DE T X (.Name x pos) (dC (.int i)) :=
  de_const (pe_glob hg hm r hd) fun _ _ => .int i
end
def OpD (T : List (Addr × Str)) (K : Frag) (r : R2) (r' : DR2) : Prop := ∀ (M : Pl) (H : Hp) (st : DSt) (x y : D) (vx vy : V) (Q' : DK) (Q : VK), RS T K M st H → RV K M H x vx → RV K M H y vy → r' x y st Q' → Kn T K M H Q' Q → r vx vy H Q
def dOp (r : DR2) (fa fb : DTE) : DTE := fun ρ st Q => fa ρ st fun x st1 => fb ρ st1 fun y st2 => r x y st2 Q
theorem lift2 {T : List (Addr × Str)} {K : Frag} {r : R2} {r' : DR2} {fa fb : DTE} (o : OpD T K r r') {σ : L2.St} {H : Hp} {Q : VK} (h : lift T K (dOp r' fa fb) σ H Q) : tOp r (lift T K fa) (lift T K fb) σ H Q := by
  obtain ⟨M, ρ, st, Q', s, re, hf, k⟩ := h
  refine ⟨M, ρ, st, _, s, re, hf, fun M1 H1 st1 x vx g1 s1 r1 h1 => ⟨M1, ρ, st1, _, s1, re.grow g1, h1, fun M2 H2 st2 y vy g2 s2 r2 h2 => ?_⟩⟩
  exact o M2 H2 st2 x y vx vy Q' Q s2 (r1.grow g2) r2 h2 (k.grow (g1.trans g2))
section
variable {T : List (Addr × Str)} {X : Cx} {a b c : Expr} {fa fb fc : DTE} {pos : Pos}
theorem de_op {op : Operator} {r : R2} {r' : DR2} (ho : OpR X (binaryOp op) r) (hd : OpD T X.K r r') (ha : DE T X a fa) (hb : DE T X b fb) : DE T X (.BinOp a op b pos) (dOp r' fa fb) :=
  PE.imp (pe_op ho ha hb) fun _ _ _ h => lift2 hd h
def dI (C : Int → Int → Prop) (g : Int → Int → D) : DR2 := fun x y st Q => onI x fun i => onI y fun j => C i j ∧ Q (g i j) st
def dI0 (g : Int → Int → D) : DR2 := fun x y st Q => onI x fun i => onI y fun j => Q (g i j) st
theorem opD_I {T : List (Addr × Str)} {K : Frag} {C : Int → Int → Prop} {g : Int → Int → D} {gv : Int → Int → V} (hg : ∀ i j M H, RV K M H (g i j) (gv i j)) : OpD T K (rI C gv) (dI C g) := by
  intro M H st x y vx vy Q' Q s rx ry h k
  obtain ⟨i, rfl, h1⟩ := onI.of h
  obtain ⟨j, rfl, c, h2⟩ := onI.of h1
  cases rx
  cases ry
  exact ⟨i, j, rfl, rfl, c, k.here s (hg i j M H) h2⟩
theorem opD_I0 {T : List (Addr × Str)} {K : Frag} {g : Int → Int → D} {gv : Int → Int → V} (hg : ∀ i j M H, RV K M H (g i j) (gv i j)) : OpD T K (rI0 gv) (dI0 g) := by
  intro M H st x y vx vy Q' Q s rx ry h k
  obtain ⟨i, rfl, h1⟩ := onI.of h
  obtain ⟨j, rfl, h2⟩ := onI.of h1
  cases rx
  cases ry
  exact ⟨i, j, rfl, rfl, k.here s (hg i j M H) h2⟩
abbrev dSub : DR2 := dI0 fun i j => .int (i - j)
abbrev dMod : DR2 := dI (fun _ j => 0 < j) fun i j => .int (i % j)
abbrev dDiv : DR2 := dI CDiv fun i j => .int (i / j)
abbrev dPow : DR2 := dI (fun i j => 0 ≤ j ∧ (Builtin.Int.intBits i : Int) * j ≤ 2 ^ 27) fun i j => .int (i ^ j.toNat)
theorem de_sub (ha : DE T X a fa) (hb : DE T X b fb) : DE T X (.BinOp a .Sub b pos) (dOp dSub fa fb) := de_op op_sub (opD_I0 fun _ _ _ _ => .int _) ha hb
theorem de_mod (ha : DE T X a fa) (hb : DE T X b fb) : DE T X (.BinOp a .Mod b pos) (dOp dMod fa fb) := de_op op_mod (opD_I fun _ _ _ _ => .int _) ha hb
theorem de_div (ha : DE T X a fa) (hb : DE T X b fb) : DE T X (.BinOp a .FloorDiv b pos) (dOp dDiv fa fb) := de_op op_fdiv (opD_I fun _ _ _ _ => .int _) ha hb
theorem de_pow (ha : DE T X a fa) (hb : DE T X b fb) : DE T X (.BinOp a .Pow b pos) (dOp dPow fa fb) := de_op op_powB (opD_I fun _ _ _ _ => .int _) ha hb
abbrev dGt : DR2 := dI0 fun i j => .bl (decide (j < i))
abbrev dGe : DR2 := dI0 fun i j => .bl (decide (j ≤ i))
def dNeg (fa : DTE) : DTE := fun r st Q => fa r st fun x st1 => onI x fun i => Q (.int (-i)) st1
def isNon : D → Bool
  | .non => true
  | _ => false
theorem RV.isNon {K : Frag} {M : Pl} {H : Hp} {d : D} {v : V} (r : RV K M H d v) : decide (v = V.non) = isNon d := by cases r <;> first | rfl | simp [DL.isNon]
def dIsN (fa : DTE) : DTE := fun r st Q => fa r st fun x st1 => Q (.bl (isNon x)) st1
def dNotN (fa : DTE) : DTE := fun r st Q => fa r st fun x st1 => Q (.bl (!isNon x)) st1
theorem lift_isN {K : Frag} {σ : L2.St} {H : Hp} {Q : VK} (h : lift T K (dIsN fa) σ H Q) : tIsN (lift T K fa) σ H Q := by
  obtain ⟨M, ρ, st, Q', s, re, hf, k⟩ := h
  refine ⟨M, ρ, st, _, s, re, hf, fun M1 H1 st1 x vx g1 s1 r1 h1 => ?_⟩
  show Q (.bl (decide (vx = V.non))) H1
  rw [r1.isNon]
  exact (k.grow g1).here s1 (.bl _) h1
theorem de_isN {j pos'} (ha : DE T X a fa) : DE T X (.Compare a [.Is] [.Constant .none j pos'] pos) (dIsN fa) := PE.imp (pe_cmp (pc_isN ha)) fun _ _ _ h => lift_isN h
def dAndV (fa fb : DTE) : DTE := fun r st Q => fa r st fun x st1 => onB x fun c => if c = true then fb r st1 Q else Q (.bl false) st1
def dOrV (fa fb : DTE) : DTE := fun r st Q => fa r st fun x st1 => onB x fun c => if c = true then Q (.bl true) st1 else fb r st1 Q
def dNotV (fa : DTE) : DTE := fun r st Q => fa r st fun x st1 => onB x fun c => Q (.bl (!c)) st1
def dTest (fa : DTE) : DTT := fun r st Q => fa r st fun x st1 => onB x fun c => Q c st1
theorem liftT_test {T : List (Addr × Str)} {K : Frag} {fa : DTE} {σ : L2.St} {H : Hp} {Q : Bool → Hp → Prop} (h : liftT T K (dTest fa) σ H Q) : tB (lift T K fa) σ H Q := by
  obtain ⟨M, ρ, st, Q', s, re, hf, k⟩ := h
  refine ⟨M, ρ, st, _, s, re, hf, fun M1 H1 st1 x vx g1 s1 r1 h1 => ?_⟩
  obtain ⟨c, rfl, h⟩ := onB.of h1
  cases r1
  exact ⟨c, rfl, k M1 H1 st1 c g1 s1 h⟩
theorem dt_val (h : DE T X a fa) (he : ∀ whole, isTrue a X.env whole = (do let v ← whole; standAt a.pos; holding [v] (truthy v)) := by intro _; rfl) : DT T X a (dTest fa) := PT.imp (pt_val h he) fun _ _ _ z => liftT_test z
theorem dt_cmpR {op : CmpOp} {r : R2} {r' : DR2} (ho : OpR X (compareOp op) r) (hd : OpD T X.K r r') (ha : DE T X a fa) (hb : DE T X b fb) (hm : behindInMarks op b = false) : DT T X (.Compare a [op] [b] pos) (dTest (dOp r' fa fb)) :=
  PT.imp (pt_cmpR ho ha hb hm) fun σ H Q z => by
    obtain ⟨M, ρ, st, Q', s, re, hf, k⟩ := z
    have z2 : lift T X.K (dOp r' fa fb) σ H (fun x H' => ∃ c, x = .bl c ∧ Q c H') := ⟨M, ρ, st, _, s, re, hf, fun M1 H1 st1 x vx g1 s1 r1 h1 => by
      obtain ⟨c, rfl, h⟩ := onB.of h1
      cases r1
      exact ⟨c, rfl, k M1 H1 st1 c g1 s1 h⟩⟩
    exact lift2 hd z2
def dtAnd (t u : DTT) : DTT := fun r st Q => t r st fun c st1 => if c = true then u r st1 Q else Q false st1
def dtOr (t u : DTT) : DTT := fun r st Q => t r st fun c st1 => if c = true then Q true st1 else u r st1 Q
def dtNot (t : DTT) : DTT := fun r st Q => t r st fun c st1 => Q (!c) st1
variable {tA tB' : DTT}
theorem dw_or1 (ha : DT T X a tA) : DW T X (.BoolOp .Or [a] pos) tA := pw_or1 ha
theorem dw_or {rest : List Expr} (ha : DT T X a tA) (hb : DW T X (.BoolOp .Or (b :: rest) pos) tB') : DW T X (.BoolOp .Or (a :: b :: rest) pos) (dtOr tA tB') := PW.imp (pw_or ha hb) fun σ H Q ⟨M, ρ, st, Q', s, re, hf, k⟩ =>
  ⟨M, ρ, st, _, s, re, hf, fun M1 H1 st1 c g1 s1 h => by
    cases c with
    | true => rw [if_pos rfl] at h ⊢; exact k M1 H1 st1 true g1 s1 h
    | false => rw [if_neg (by decide)] at h ⊢; exact ⟨M1, ρ, st1, _, s1, re.grow g1, h, fun M2 H2 st2 b g2 s2 q => k M2 H2 st2 b (g1.trans g2) s2 q⟩⟩
theorem dt_not (ha : DT T X a tA) : DT T X (.UnaryOp .Not a pos) (dtNot tA) := PT.imp (pt_not ha) fun σ H Q ⟨M, ρ, st, Q', s, re, hf, k⟩ =>
  ⟨M, ρ, st, _, s, re, hf, fun M1 H1 st1 c g1 s1 h => k M1 H1 st1 _ g1 s1 h⟩
def dIf (t : DTT) (fa fb : DTE) : DTE := fun r st Q => t r st fun c st1 => if c = true then fa r st1 Q else fb r st1 Q
theorem de_if (hc : DT T X c tA) (ha : DE T X a fa) (hb : DE T X b fb) : DE T X (.IfExp c a b pos) (dIf tA fa fb) := PE.imp (pe_ifExp hc ha hb) fun σ H Q ⟨M, ρ, st, Q', s, re, hf, k⟩ =>
  ⟨M, ρ, st, _, s, re, hf, fun M1 H1 st1 c g1 s1 h => by
    cases c with
    | true => rw [if_pos rfl] at h ⊢; exact ⟨M1, ρ, st1, _, s1, re.grow g1, h, k.grow g1⟩
    | false => rw [if_neg (by decide)] at h ⊢; exact ⟨M1, ρ, st1, _, s1, re.grow g1, h, k.grow g1⟩⟩
def daNil : DTA := fun _ st Q => Q [] st
def daCons (f : DTE) (g : DTA) : DTA := fun r st Q => f r st fun d st1 => g r st1 fun ds st2 => Q (d :: ds) st2
theorem da_nil : DA T X [] daNil := PA.imp pa_nil fun σ H Q ⟨M, ρ, st, Q', s, re, hf, k⟩ => k M H st [] [] (Grow.refl M H) s .nil hf
theorem da_cons {e : Expr} {es : List Expr} {f : DTE} {g : DTA} (ha : DE T X e f) (hr : DA T X es g) (hs : starEach (e :: es) X.env = (false, eval e X.env) :: starEach es X.env := by rfl) : DA T X (e :: es) (daCons f g) :=
  PA.imp (pa_cons ha hr hs) fun σ H Q ⟨M, ρ, st, Q', s, re, hf, k⟩ =>
    ⟨M, ρ, st, _, s, re, hf, fun M1 H1 st1 x vx g1 s1 r1 h1 => ⟨M1, ρ, st1, _, s1, re.grow g1, h1, fun M2 H2 st2 ds vs g2 s2 r2 h2 => k M2 H2 st2 _ _ (g1.trans g2) s2 (.cons (r1.grow g2) r2) h2⟩⟩
end
end DL
namespace DL
open PySem PySem.Spec PyProof.Rows L2 LamX PySem.W SL
theorem vals1 {x : V} {us : List Value} (r : Vals [x] us) : ∃ u, us = [u] ∧ RelV x u := Vals.one r
theorem flat_ints : ∀ ns : List Int, (ns.map V.int).all flatV = true
  | [] => rfl
  | n :: ns => by rw [List.map_cons, List.all_cons, flat_ints ns]; rfl
def FzT (H : Hp) (a : Addr) (xs : List V) : Prop := ∃ o : Obj, H a = some (.frz o (.tup xs)) ∧ o.dict = none
theorem FzT.sq {K : PySem.W.Frag} {H : Hp} {a : Addr} {xs : List V} (h : FzT H a xs) : SqT K H a xs := by
  obtain ⟨o, e, _⟩ := h
  exact Or.inl (Or.inr ⟨o, e⟩)
theorem FzT.same {H H' : Hp} {a : Addr} {xs : List V} (h : FzT H a xs) (s : Same H H') : FzT H' a xs := by
  obtain ⟨o, e, d⟩ := h
  exact ⟨o, s _ _ e, d⟩
def rTupF (K : PySem.W.Frag) : List V → Hp → VK → Prop := fun xs H Q => ∃ p ys, xs = [.ref p] ∧ SqL K H p ys ∧ ∀ (l : Addr) (o : Obj), H l = none → o.dict = none → Q (.ref l) (upd H l (.frz o (.tup ys)))
theorem call_tupF {X : Cx} : CallR X (.type "tuple") (rTupF X.K) := by
  intro pins s σ H xs us Q I r h
  obtain ⟨p, ys, rfl, sq, q⟩ := h
  obtain ⟨u, rfl, rx⟩ := vals1 r
  cases rx
  obtain ⟨its, rv, pl, few⟩ := I.list sq
  have len := rv.length
  refine call_tuple_list pl.isList (fun g kp => ?_) (by rw [List.size_toArray]; omega)
  have I1 : Inv X pins σ H { s with heap := g } := I.kept (t' := s.toks) kp
  have new : (g.push { cls := .type "tuple", data := .seq its.toArray }).get? g.objs.size = some { cls := .type "tuple", data := .seq its.toArray } := Heap.get?_push_size _ rfl
  exact ⟨.ref g.objs.size, _, I1.laid (t' := s.toks) (o := .frz { cls := .type "tuple", data := .seq its.toArray } (.tup ys)) (fun b o e => Heap.get?_push_of_some _ e) (Nat.le_refl _) ⟨new, few, its, rv, _, new, rfl, _, rfl⟩, rfl, q _ _ (I1.hok.fresh (Nat.le_refl _)) rfl⟩
def tBMF (r : V → List V → Hp → VK → Prop) (to : TE) (t : TA) : TE := fun σ H Q => to σ H fun x H1 => (∃ p xs, x = .ref p ∧ FzT H1 p xs) ∧ t σ H1 fun vs H2 => r x vs H2 Q
theorem pe_bmF {X : Cx} {o e : Expr} {es : List Expr} {to : TE} {t : TA} {name : Str} {apos cpos : Pos} {id : String} {r : V → List V → Hp → VK → Prop} (pa : PlainAttrs "tuple") (slot : Slot "tuple" name id) (ty : typeOf (.builtin id) = pure (.type "method_descriptor")) (hm : MtR X id r) (ho : PE X o to) (ha : PA X (e :: es) t)
    (h1 : attributeBase o name X.env (eval o X.env) = eval o X.env := by rfl)
    (h2 : ((backTo cpos (starEach (e :: es) X.env)).all (fun x => !x.1) && (backToKw cpos (keywordEach [] X.env)).all (fun x => x.1.isSome) && decide ((e :: es).length + ([] : List Keyword).length + (if ([] : List Keyword).isEmpty then 0 else 1) < 30)) = true := by rfl)
    (h3 : (apos.endLine == cpos.line) = true := by rfl) (h4 : starEach (e :: es) X.env = (false, eval e X.env) :: starEach es X.env := by rfl) (h5 : (backTo cpos (starEach es X.env)).any (·.1) = false := by rfl) :
    PE X (.Call (.Attribute o name apos) (e :: es) [] cpos) (tBMF r to t) := by
  constructor
  intro pins s σ H Q I h
  refine wpAny_Call_method_late h1 h2 h3 rfl (thn (ho.run pins s σ H _ I h) ?_)
  rintro v s1 ⟨x, H1, I1, r1, ⟨p, xs, rfl, ob, hp, dn⟩, q1⟩
  obtain rfl : v = Value.ref p := r1
  obtain ⟨at_, _, its, _, ob2, at2, cl, _⟩ := I1.hok p _ hp
  rw [at_] at at2
  cases at2
  refine ⟨"tuple", id, pa, slot, ty, ⟨ob, at_, cl⟩, fun a ea => ?_, ?_⟩
  · cases ea
    exact ⟨ob, at_, dn⟩
  · have run := ha.run cpos pins s1 σ H1 _ I1 q1
    rw [h4] at run ⊢
    refine Calls.callWith_builtin (by show (false || (backTo cpos (starEach es X.env)).any (·.1)) = false; rw [h5]; rfl) (Calls.evalArgs_plain ?_)
    refine thn run ?_
    rintro us s2 ⟨vs, H2, I2, r2, q2⟩
    exact hm pins s2 σ H2 (.ref p) vs _ us Q I2 rfl r2 q2
def rIndexT (K : PySem.W.Frag) : V → List V → Hp → VK → Prop := fun x xs H Q => ∃ (p : Addr) (ns : List Int) (z : Int) (j : Nat), x = .ref p ∧ xs = [.int z] ∧ SqT K H p (ns.map V.int) ∧ ns[j]? = some z ∧ (∀ m, m < j → ns[m]? ≠ some z) ∧ Q (.int (j : Nat)) H
theorem mt_tup_indexI {X : Cx} : MtR X "tuple.index" (rIndexT X.K) := by
  intro pins s σ H x xs v us Q I rx rs h
  obtain ⟨p, ns, z, j, rfl, rfl, sq, hj, no, q⟩ := h
  cases rx
  obtain ⟨u, rfl, t, rfl⟩ := vals1 rs
  obtain ⟨its, r, ⟨⟨cls, dd, dt, sl⟩, ho, hc, n, hd⟩, hz⟩ := I.tuple sq
  simp only at hc hd
  subst hc
  subst hd
  have len : its.toArray.size = ns.length := by rw [List.size_toArray, ← r.length, List.length_map]
  have lj : j < its.toArray.size := by rw [len]; exact (List.getElem?_eq_some_iff.mp hj).1
  have item : ∀ (m : Nat) (lm : m < its.toArray.size), ∃ i t', ns[m]? = some i ∧ its.toArray[m] = Value.int i t' := by
    intro m lm
    have lm' : m < ns.length := by omega
    obtain ⟨u, hu, t', e⟩ := r.get (i := m) (x := .int ns[m]) (by simp [lm'])
    refine ⟨ns[m], t', List.getElem?_eq_getElem lm', ?_⟩
    rw [← e, ← (List.getElem?_eq_some_iff.mp hu).2]
    simp
  refine call_meets PySem.F.slot_tuple_index ⟨_, ho, rfl⟩ PySem.F.entry_tuple_index (PySem.F.args_tuple_index_2 _ _) (TI.tuple_indexAt p its.toArray n dd sl (.int z t) (eqU (.int z)) j lj ?_ ?_)
    ⟨ho, fun y hy => mem_eqAt (x := .int z) ⟨t, rfl⟩ rfl r (flat_ints ns) y (by simpa using hy), ⟨.int (j : Nat), H, I.tok _, ⟨_, rfl⟩, q⟩⟩
  · obtain ⟨i, t', h1, h2⟩ := item j lj
    rw [hj] at h1
    cases h1
    rw [h2]
    show (z == z) = true
    exact beq_self_eq_true z
  · intro m lm lt
    obtain ⟨i, t', h1, h2⟩ := item m lm
    rw [h2]
    show (i == z) = false
    refine beq_eq_false_iff_ne.mpr fun e => ?_
    rw [e] at h1
    exact no m lt h1

def rCatF (K : Frag) : R2 := fun x y H Q => ∃ a b xs ys, x = .ref a ∧ y = .ref b ∧ SqT K H a xs ∧ SqT K H b ys ∧ xs.length + ys.length ≤ sizeLine ∧
  (xs = [] → Q (.ref b) H) ∧ (xs ≠ [] → ys = [] → Q (.ref a) H) ∧ (xs ≠ [] → ys ≠ [] → ∀ (p : Addr) (ob : Obj), H p = none → ob.dict = none → Q (.ref p) (upd H p (.frz ob (.tup (xs ++ ys)))))
theorem op_catF {X : Cx} : OpR X (binaryOp .Add) (rCatF X.K) := by
  intro pins s σ H x y v u Q I rx ry h
  obtain ⟨a, b, xs, ys, rfl, rfl, ha, hb, hz, q0, q1, q2⟩ := h
  cases rx
  cases ry
  obtain ⟨its, r1, p1, _⟩ := I.tuple ha
  obtain ⟨its2, r2, p2, _⟩ := I.tuple hb
  by_cases e : xs = []
  · have e' := r1.nil_iff.mpr e
    subst e'
    exact cat_tup0 p1 p2 ⟨.ref b, H, I, rfl, q0 e⟩
  · refine HT.cat_tup p1 p2 (fun z => e (r1.nil_iff.mp z)) (fun z => ⟨.ref a, H, I, rfl, q1 e (r2.nil_iff.mp z)⟩) (fun z => ?_) (by rw [← r1.length, ← r2.length]; exact hz)
    refine ⟨.ref s.heap.objs.size, _, I.laid (t' := s.toks) (o := .frz { cls := .type "tuple", data := .seq (its ++ its2).toArray } (.tup (xs ++ ys))) (fun b ob q => Heap.get?_push_of_some _ q) (Nat.le_refl _) ?_, rfl, q2 e (fun w => z (r2.nil_iff.mpr w)) _ _ (I.hok.fresh (Nat.le_refl _)) rfl⟩
    exact ⟨Heap.get?_push_size _ rfl, by rw [List.length_append]; exact hz, _, r1.append r2, IsTup.new _ _⟩
def rSlF (K : Frag) : V → Option Int → Option Int → Hp → VK → Prop := fun x lo hi H Q => ∃ a xs, x = .ref a ∧ SqT K H a xs ∧
  (HT.sIx xs.length 0 lo = 0 ∧ HT.sIx xs.length xs.length hi = xs.length → Q (.ref a) H) ∧ (¬ (HT.sIx xs.length 0 lo = 0 ∧ HT.sIx xs.length xs.length hi = xs.length) → ∀ (p : Addr) (ob : Obj), H p = none → ob.dict = none → Q (.ref p) (upd H p (.frz ob (.tup (cutV xs lo hi)))))
theorem sl_F {X : Cx} : SlR X (rSlF X.K) := by
  intro pins s σ H x v vl vu lo hi sl Q I rx hs pl pu h
  obtain ⟨a, xs, rfl, hx, qw, q⟩ := h
  cases rx
  obtain ⟨its, r, ht, hz⟩ := I.tuple hx
  have hlen : its.toArray.size = xs.length := by rw [List.size_toArray]; exact r.length.symm
  refine ⟨"tuple", _, PyProof.Rows.slot_tuple_getitem.lookup, ht.typeIs, ?_⟩
  by_cases hw : HT.sIx xs.length 0 lo = 0 ∧ HT.sIx xs.length xs.length hi = xs.length
  · exact getItem_tuple_whole ht hs pl pu (by rw [hlen]; exact hw) ⟨.ref a, H, I, rfl, qw hw⟩
  · refine HT.getItem_tuple_cut ht hs pl pu (by rw [hlen]; exact hw) ?_ (by rw [hlen]; exact hz)
    rw [hlen]
    refine ⟨.ref s.heap.objs.size, _, I.laid (t' := s.toks) (o := .frz { cls := .type "tuple", data := .seq ((its.drop (HT.sIx xs.length 0 lo)).take (HT.sIx xs.length xs.length hi - HT.sIx xs.length 0 lo)).toArray } (.tup (cutV xs lo hi))) (fun b ob q => Heap.get?_push_of_some _ q) (Nat.le_refl _) ?_, rfl, q hw _ _ (I.hok.fresh (Nat.le_refl _)) rfl⟩
    exact ⟨Heap.get?_push_size _ rfl, Nat.le_trans (cutV_length xs lo hi) hz, _, (r.drop (HT.sIx xs.length 0 lo)).take (HT.sIx xs.length xs.length hi - HT.sIx xs.length 0 lo), IsTup.new _ _⟩
end DL
namespace DL
open PySem PySem.Spec PyProof.Rows L2 LamX PySem.W SL
def okLen (ds : List D) (P : Prop) : Prop := match ds with
  | [] => P
  | [_] => P
  | [_, _] => P
  | [_, _, _] => P
  | [_, _, _, _] => P
  | [_, _, _, _, _] => P
  | _ => ds.length ≤ sizeLine ∧ P
theorem okLen.of {ds : List D} {P : Prop} (h : okLen ds P) : ds.length ≤ sizeLine ∧ P := by
  unfold okLen at h
  split at h <;> first | exact h | exact ⟨Nat.le_of_lt (small1000 (by simp)), h⟩
section
variable {T : List (Addr × Str)} {K : Frag} {M : Pl} {H : Hp} {st : DSt} {ds : List D} {xs : List V} {Q' : DK} {Q : VK} {p : Addr}
theorem Kn.tup {ob : Obj} (k : Kn T K M H Q' Q) (s : RS T K M st H) (r : RVs K M H ds xs) (np : H p = none) (hd : ob.dict = none) (q : Q' (.tup ds) st) : Q (.ref p) (upd H p (.frz ob (.tup xs))) :=
  k M _ st _ _ (Grow.new s.hid np) (s.new np) (.tup (s.notin np) upd_same hd (r.grow (Grow.new s.hid np))) q
theorem Kn.tuk (k : Kn T K M H Q' Q) (s : RS T K M st H) (r : RVs K M H ds xs) (np : H p = none) (q : Q' (.tuk ds) st) : Q (.ref p) (upd H p (.tup xs)) :=
  k M _ st _ _ (Grow.new s.hid np) (s.new np) (.tuk (s.notin np) upd_same (r.grow (Grow.new s.hid np))) q
theorem Kn.lst (k : Kn T K M H Q' Q) (s : RS T K M st H) (r : RVs K M H ds xs) (np : H p = none) (q : Q' (.lst ds) st) : Q (.ref p) (upd H p (.lst xs)) :=
  k M _ st _ _ (Grow.new s.hid np) (s.new np) (.lst (s.notin np) upd_same (r.grow (Grow.new s.hid np))) q
theorem Kn.own (k : Kn T K M H Q' Q) (s : RS T K M st H) (r : RVs K M H ds xs) (np : H p = none) (q : Q' (.ref st.length) (st ++ [.lst ds])) : Q (.ref p) (upd H p (.lst xs)) :=
  k (M.app [p]) _ (st ++ [.lst ds]) _ _ (Grow.place s.hid np) (s.place (u := .lst ds) np ⟨xs, upd_same, r.grow (Grow.place s.hid np)⟩) (.ref (by unfold Pl.at_; show (M.m ++ [p])[M.h + st.length]? = some p; rw [← s.len]; simp)) q
end
section
variable {T : List (Addr × Str)} {X : Cx} {a b c : Expr} {es : List Expr} {fa fb fc : DTE} {fs : DTA} {pos : Pos}
def tTupF (t : TA) : TE := fun σ H Q => t σ H fun xs H1 => xs.length ≤ sizeLine ∧ ∀ (p : Addr) (ob : Obj), H1 p = none → ob.dict = none → Q (.ref p) (upd H1 p (.frz ob (.tup xs)))
theorem pe_tupF {t : TA} {x1} (h : PA X es t) : PE X (.Tuple es x1 pos) (tTupF t) := by
  refine ⟨fun pins s σ H Q I hq => ?_⟩
  refine wpAny_Tuple_spliced (thn (h.run pos pins s σ H _ I hq) fun us s1 ⟨xs, H1, I1, r, z, q⟩ => ⟨by rw [← r.length]; exact z, ?_⟩)
  have hf : H1 s1.heap.objs.size = none := I1.hok.fresh (Nat.le_refl _)
  refine ⟨.ref s1.heap.objs.size, _, I1.laid (t' := s1.toks) (o := .frz { cls := .type "tuple", data := .seq us.toArray } (.tup xs)) (fun b u e => Heap.get?_push_of_some _ e) (Nat.le_refl _) ?_, rfl, q _ _ hf rfl⟩
  exact ⟨Heap.get?_push_size _ rfl, z, us, r, ⟨_, Heap.get?_push_size _ rfl, rfl, _, rfl⟩⟩
def dTup (f : DTA) : DTE := fun r st Q => f r st fun ds st1 => okLen ds (Q (.tup ds) st1)
def dLst (f : DTA) : DTE := fun r st Q => f r st fun ds st1 => okLen ds (Q (.lst ds) st1)
def dLstN (f : DTA) : DTE := fun r st Q => f r st fun ds st1 => okLen ds (Q (.ref st1.length) (st1 ++ [.lst ds]))
theorem de_tup {x1} (h : DA T X es fs) : DE T X (.Tuple es x1 pos) (dTup fs) := PE.imp (pe_tupF h) fun σ H Q ⟨M, ρ, st, Q', s, re, hf, k⟩ =>
  ⟨M, ρ, st, _, s, re, hf, fun M1 H1 st1 ds vs g1 s1 r1 h1 => by
    obtain ⟨z, q⟩ := okLen.of h1
    exact ⟨by rw [← r1.length]; exact z, fun p ob np hd => (k.grow g1).tup s1 r1 np hd q⟩⟩
theorem de_lst (h : DA T X es fs) : DE T X (.List es pos) (dLst fs) := PE.imp (pe_lst h) fun σ H Q ⟨M, ρ, st, Q', s, re, hf, k⟩ =>
  ⟨M, ρ, st, _, s, re, hf, fun M1 H1 st1 ds vs g1 s1 r1 h1 => by
    obtain ⟨z, q⟩ := okLen.of h1
    exact ⟨by rw [← r1.length]; exact z, fun p np => (k.grow g1).lst s1 r1 np q⟩⟩
theorem de_lstN (h : DA T X es fs) : DE T X (.List es pos) (dLstN fs) := PE.imp (pe_lst h) fun σ H Q ⟨M, ρ, st, Q', s, re, hf, k⟩ =>
  ⟨M, ρ, st, _, s, re, hf, fun M1 H1 st1 ds vs g1 s1 r1 h1 => by
    obtain ⟨z, q⟩ := okLen.of h1
    exact ⟨by rw [← r1.length]; exact z, fun p np => (k.grow g1).own s1 r1 np q⟩⟩
def CallD (T : List (Addr × Str)) (K : Frag) (r : List V → Hp → VK → Prop) (r' : DRs) : Prop := ∀ (M : Pl) (H : Hp) (st : DSt) (ds : List D) (vs : List V) (Q' : DK) (Q : VK), RS T K M st H → RVs K M H ds vs → r' ds st Q' → Kn T K M H Q' Q → r vs H Q
def dCB (r' : DRs) (fs : DTA) : DTE := fun ρ st Q => fs ρ st fun ds st1 => r' ds st1 Q
theorem lift_cb {K : Frag} {r : List V → Hp → VK → Prop} {r' : DRs} (hd : CallD T K r r') {σ : L2.St} {H : Hp} {Q : VK} (h : lift T K (dCB r' fs) σ H Q) : tCB r (liftA T K fs) σ H Q := by
  obtain ⟨M, ρ, st, Q', s, re, hf, k⟩ := h
  exact ⟨M, ρ, st, _, s, re, hf, fun M1 H1 st1 ds vs g1 s1 r1 h1 => hd M1 H1 st1 ds vs Q' Q s1 r1 h1 (k.grow g1)⟩
theorem de_callB {id : String} {x : Str} {p : Pos} {e : Expr} {r : List V → Hp → VK → Prop} {r' : DRs} (hc : CallR X (.builtin id) r) (hd : CallD T X.K r r') (hg : Gl X x) (hm : X.mg x = none) (hv : bootBuiltins x = some (.builtin id)) (ha : DA T X (e :: es) fs)
    (hn : x ≠ "__name__" := by decide) (hdb : (x == ("__debug__" : Str)) = false := by decide)
    (he : starEach (e :: es) X.env = (false, eval e X.env) :: starEach es X.env := by rfl) (hpl : (backTo pos (starEach es X.env)).any (·.1) = false := by rfl) : DE T X (.Call (.Name x p) (e :: es) [] pos) (dCB r' fs) :=
  PE.imp (pe_callB hc hg hm hv ha hn hdb he hpl) fun _ _ _ h => lift_cb hd h
theorem de_callTy {id : String} {x : Str} {p : Pos} {e : Expr} {r : List V → Hp → VK → Prop} {r' : DRs} (hc : CallR X (.type id) r) (hd : CallD T X.K r r') (hg : Gl X x) (hm : X.mg x = none) (hv : bootBuiltins x = some (.type id)) (ha : DA T X (e :: es) fs)
    (hn : x ≠ "__name__" := by decide) (hdb : (x == ("__debug__" : Str)) = false := by decide)
    (he : starEach (e :: es) X.env = (false, eval e X.env) :: starEach es X.env := by rfl) (hpl : (backTo pos (starEach es X.env)).any (·.1) = false := by rfl) : DE T X (.Call (.Name x p) (e :: es) [] pos) (dCB r' fs) :=
  PE.imp (pe_callTy hc hg hm hv ha hn hdb he hpl) fun _ _ _ h => lift_cb hd h
def on1 (ds : List D) (k : D → Prop) : Prop := match ds with | [x] => k x | _ => False
def on2 (ds : List D) (k : D → D → Prop) : Prop := match ds with | [x, y] => k x y | _ => False
theorem on1.of {ds : List D} {k : D → Prop} (h : on1 ds k) : ∃ x, ds = [x] ∧ k x := by
  match ds, h with
  | [x], h => exact ⟨x, rfl, h⟩
  | [], h => exact h.elim
  | _ :: _ :: _, h => exact h.elim
theorem on2.of {ds : List D} {k : D → D → Prop} (h : on2 ds k) : ∃ x y, ds = [x, y] ∧ k x y := by
  match ds, h with
  | [x, y], h => exact ⟨x, y, rfl, h⟩
  | [], h => exact h.elim
  | [_], h => exact h.elim
  | _ :: _ :: _ :: _, h => exact h.elim
theorem RVs.one {K : Frag} {M : Pl} {H : Hp} {x : D} {vs : List V} (r : RVs K M H [x] vs) : ∃ v, vs = [v] ∧ RV K M H x v := by
  cases r with
  | cons h t => cases t; exact ⟨_, rfl, h⟩
theorem RVs.two {K : Frag} {M : Pl} {H : Hp} {x y : D} {vs : List V} (r : RVs K M H [x, y] vs) : ∃ v w, vs = [v, w] ∧ RV K M H x v ∧ RV K M H y w := by
  cases r with
  | cons h t => obtain ⟨w, rfl, q⟩ := t.one; exact ⟨_, _, rfl, h, q⟩
def dLen : DRs := fun ds st Q => on1 ds fun x => onO (seqS st x) fun xs => Q (.int xs.length) st
theorem callD_len {K : Frag} : CallD T K (fun xs H Q => ∃ p ys, xs = [.ref p] ∧ (SqL K H p ys ∨ SqT K H p ys) ∧ Q (.int ys.length) H) dLen := by
  intro M H st ds vs Q' Q s r h k
  obtain ⟨x, rfl, h⟩ := on1.of h
  obtain ⟨xs, e, h⟩ := onO.of h
  obtain ⟨v, rfl, rv⟩ := r.one
  obtain ⟨p, ys, rfl, sq, rs⟩ := seqS.rd s rv e
  refine ⟨p, ys, rfl, sq, ?_⟩
  rw [← rs.length]
  exact k.here s (.int _) h
def dAbs : DRs := fun ds st Q => on1 ds fun x => onI x fun i => Q (.int (if i < 0 then -i else i)) st
theorem callD_abs {K : Frag} : CallD T K (fun xs H Q => ∃ i, xs = [V.int i] ∧ Q (.int (if i < 0 then -i else i)) H) dAbs := by
  intro M H st ds vs Q' Q s r h k
  obtain ⟨x, rfl, h⟩ := on1.of h
  obtain ⟨i, rfl, h⟩ := onI.of h
  obtain ⟨v, rfl, rv⟩ := r.one
  cases rv
  exact ⟨i, rfl, k.here s (.int _) h⟩
def d2I (g : Int → Int → Int) : DRs := fun ds st Q => on2 ds fun x y => onI x fun i => onI y fun j => Q (.int (g i j)) st
theorem callD_2I {K : Frag} {g : Int → Int → Int} : CallD T K (fun xs H Q => ∃ i j, xs = [V.int i, V.int j] ∧ Q (.int (g i j)) H) (d2I g) := by
  intro M H st ds vs Q' Q s r h k
  obtain ⟨x, y, rfl, h⟩ := on2.of h
  obtain ⟨i, rfl, h⟩ := onI.of h
  obtain ⟨j, rfl, h⟩ := onI.of h
  obtain ⟨v, w, rfl, rv, rw'⟩ := r.two
  cases rv
  cases rw'
  exact ⟨i, j, rfl, k.here s (.int _) h⟩
abbrev dMax2 : DRs := d2I fun i j => if j > i then j else i
abbrev dMin2 : DRs := d2I fun i j => if j < i then j else i
def dTuple : DRs := fun ds st Q => on1 ds fun x => match x with
  | .tup xs => Q (.tup xs) st
  | .tuk xs => Q (.tuk xs) st
  | .lst xs => Q (.tup xs) st
  | .ref n => onO (seqS st (.ref n)) fun xs => Q (.tup xs) st
  | _ => False
def rTup2 (K : Frag) : List V → Hp → VK → Prop := fun xs H Q => rTupF K xs H Q ∨ ∃ a ys, xs = [.ref a] ∧ SqT K H a ys ∧ Q (.ref a) H
theorem call_tup2 : CallR X (.type "tuple") (rTup2 X.K) := CallR.or call_tupF call_tupleT
theorem callD_tup {K : Frag} : CallD T K (rTup2 K) dTuple := by
  intro M H st ds vs Q' Q s r h k
  obtain ⟨x, rfl, h⟩ := on1.of h
  obtain ⟨v, rfl, rv⟩ := r.one
  cases x with
  | tup xs => cases rv with | tup n e q rs => exact .inr ⟨_, _, rfl, .inl (.inr ⟨_, e⟩), k.here s (.tup n e q rs) h⟩
  | tuk xs => cases rv with | tuk n e rs => exact .inr ⟨_, _, rfl, .inl (.inl e), k.here s (.tuk n e rs) h⟩
  | lst xs => cases rv with
    | lst n e rs => exact .inl ⟨_, _, rfl, .inl (.inl e), fun l o nl hd => k.tup s rs nl hd h⟩
  | ref n =>
    obtain ⟨xs, e, h⟩ := onO.of h
    have rr := rv
    cases rv with
    | ref hm =>
      obtain ⟨o, e1, ro⟩ := s.atM hm
      unfold seqS at e
      simp only [e1] at e
      cases o with
      | lst zs => cases e; obtain ⟨ys, q, rs⟩ := ro; exact .inl ⟨_, ys, rfl, .inl (.inl q), fun l o nl hd => k.tup s rs nl hd h⟩
      | dK _ => cases e
      | dT _ => cases e
  | _ => exact h.elim
def dListT : DRs := fun ds st Q => on1 ds fun x => onO (seqS st x) fun xs => Q (.lst xs) st
def dListN : DRs := fun ds st Q => on1 ds fun x => onO (seqS st x) fun xs => Q (.ref st.length) (st ++ [.lst xs])
theorem callD_listT {K : Frag} : CallD T K (fun xs H Q => ∃ p ys, xs = [.ref p] ∧ (SqL K H p ys ∨ SqT K H p ys) ∧ ∀ l, H l = none → Q (.ref l) (upd H l (.lst ys))) dListT := by
  intro M H st ds vs Q' Q s r h k
  obtain ⟨x, rfl, h⟩ := on1.of h
  obtain ⟨xs, e, h⟩ := onO.of h
  obtain ⟨v, rfl, rv⟩ := r.one
  obtain ⟨p, ys, rfl, sq, rs⟩ := seqS.rd s rv e
  exact ⟨p, ys, rfl, sq, fun l nl => k.lst s rs nl h⟩
theorem callD_listN {K : Frag} : CallD T K (fun xs H Q => ∃ p ys, xs = [.ref p] ∧ (SqL K H p ys ∨ SqT K H p ys) ∧ ∀ l, H l = none → Q (.ref l) (upd H l (.lst ys))) dListN := by
  intro M H st ds vs Q' Q s r h k
  obtain ⟨x, rfl, h⟩ := on1.of h
  obtain ⟨xs, e, h⟩ := onO.of h
  obtain ⟨v, rfl, rv⟩ := r.one
  obtain ⟨p, ys, rfl, sq, rs⟩ := seqS.rd s rv e
  exact ⟨p, ys, rfl, sq, fun l nl => k.own s rs nl h⟩
def boolsD : List D → Option (List Bool)
  | [] => some []
  | .bl b :: r => (boolsD r).map (b :: ·)
  | _ => none
theorem boolsD_of : ∀ {ds : List D} {bs : List Bool}, boolsD ds = some bs → ds = bs.map D.bl
  | [], bs, h => by cases h; rfl
  | .bl b :: r, bs, h => by
    unfold boolsD at h
    cases q : boolsD r with
    | none => rw [q] at h; cases h
    | some cs => rw [q] at h; cases h; rw [boolsD_of q]; rfl
  | .non :: r, bs, h => by cases h
  | .int _ :: r, bs, h => by cases h
  | .str _ :: r, bs, h => by cases h
  | .tup _ :: r, bs, h => by cases h
  | .tuk _ :: r, bs, h => by cases h
  | .lst _ :: r, bs, h => by cases h
  | .scr _ :: r, bs, h => by cases h
  | .ref _ :: r, bs, h => by cases h
theorem boolsD_map {α : Type} (g : α → Bool) : ∀ xs : List α, boolsD (xs.map fun x => D.bl (g x)) = some (xs.map g)
  | [] => rfl
  | x :: r => by rw [List.map_cons, List.map_cons]; unfold boolsD; rw [boolsD_map g r]; rfl
def dAllR (g : List Bool → Bool) : DRs := fun ds st Q => on1 ds fun x => match x with
  | .lst xs => onO (boolsD xs) fun bs => Q (.bl (g bs)) st
  | _ => False
theorem callD_all {K : Frag} (g : List Bool → Bool) : CallD T K (fun vs H Q => ∃ (a : Addr) (bs : List Bool), vs = [V.ref a] ∧ SqL K H a (bs.map V.bl) ∧ Q (.bl (g bs)) H) (dAllR g) := by
  intro M H st ds vs Q' Q s r h k
  obtain ⟨x, rfl, h⟩ := on1.of h
  obtain ⟨v, rfl, rv⟩ := r.one
  cases x with
  | lst xs =>
    obtain ⟨bs, e, h2⟩ := onO.of h
    have z := boolsD_of e
    subst z
    cases rv with
    | lst n e1 rs => have z := rs.bls; subst z; exact ⟨_, bs, rfl, .inl (.inl e1), k.here s (.bl _) h2⟩
  | _ => exact h.elim
abbrev dAll : DRs := dAllR fun bs => bs.all id
def dIx : DR2 := fun x y st Q => onO (seqS st x) fun ds => onI y fun i => onO (atI ds i) fun d => Q d st
theorem RVs.atI {K : Frag} {M : Pl} {H : Hp} {ds : List D} {xs : List V} (r : RVs K M H ds xs) {i : Int} {d : D} (h : L2.atI ds i = some d) : ∃ v, L2.atI xs i = some v ∧ RV K M H d v := by
  unfold L2.atI at h ⊢
  rw [← r.length]
  cases q : ixN ds.length i with
  | none => rw [q] at h; cases h
  | some j =>
    rw [q] at h
    obtain ⟨v, e, rv⟩ := r.get (i := j) (d := d) h
    exact ⟨v, e, rv⟩
theorem opD_ix {K : Frag} : OpD T K (rIx K) dIx := by
  intro M H st x y vx vy Q' Q s rx ry h k
  obtain ⟨ds, e, h⟩ := onO.of h
  obtain ⟨i, rfl, h⟩ := onI.of h
  obtain ⟨d, e2, h⟩ := onO.of h
  obtain ⟨p, xs, rfl, sq, rs⟩ := seqS.rd s rx e
  cases ry
  obtain ⟨v, e3, rv⟩ := rs.atI e2
  rcases sq with sq | sq
  · exact .inl ⟨p, xs, i, v, rfl, rfl, sq, e3, k.here s rv h⟩
  · exact .inr (.inl ⟨p, xs, i, v, rfl, rfl, sq, e3, k.here s rv h⟩)
theorem de_ix (ha : DE T X a fa) (hb : DE T X b fb) (hs : PlainIx b) : DE T X (.Subscript a b pos) (dOp dIx fa fb) := PE.imp (pe_ix ix_seq ha hb hs) fun _ _ _ h => lift2 opD_ix h
end
end DL
namespace DL
open PySem PySem.Spec PyProof.Rows L2 LamX PySem.W SL
mutual
def pdT : D → Option PyData
  | .non => some .none
  | .bl b => some (.bool b)
  | .int i => some (.int i)
  | .str x => some (.str x)
  | .tup ds => (pdTs ds).map .tuple
  | .tuk ds => (pdTs ds).map .tuple
  | .lst ds => (pdTs ds).map .list
  | .scr ds => (pdTs ds).map .list
  | .ref _ => none
def pdTs : List D → Option (List PyData)
  | [] => some []
  | d :: ds => match pdT d with
    | none => none
    | some p => (pdTs ds).map (p :: ·)
end
def pdS (st : DSt) : D → Option PyData
  | .ref n => match st[n]? with
    | some (.lst ds) => (pdTs ds).map .list
    | _ => none
  | d => pdT d
mutual
theorem pdT_dp {K : Frag} {M : Pl} {H : Hp} : ∀ {d : D} {v : V} {p : PyData}, RV K M H d v → pdT d = some p → Dp K H v p
  | _, _, _, .non, e => by simp only [pdT, Option.some.injEq] at e; subst e; exact .non
  | _, _, _, .bl b, e => by simp only [pdT, Option.some.injEq] at e; subst e; exact .bl b
  | _, _, _, .int b, e => by simp only [pdT, Option.some.injEq] at e; subst e; exact .int b
  | _, _, _, .str b, e => by simp only [pdT, Option.some.injEq] at e; subst e; exact .str b
  | _, _, _, .tup (ds := ds) n h q r, e => by
    simp only [pdT, Option.map_eq_some_iff] at e
    obtain ⟨ps, e, rfl⟩ := e
    exact .tup (.inl (.inr ⟨_, h⟩)) (pdTs_dp r e)
  | _, _, _, .tuk n h r, e => by
    simp only [pdT, Option.map_eq_some_iff] at e
    obtain ⟨ps, e, rfl⟩ := e
    exact .tup (.inl (.inl h)) (pdTs_dp r e)
  | _, _, _, .lst n h r, e => by
    simp only [pdT, Option.map_eq_some_iff] at e
    obtain ⟨ps, e, rfl⟩ := e
    exact .lst (.inl (.inl h)) (pdTs_dp r e)
  | _, _, _, .scr n h r, e => by
    simp only [pdT, Option.map_eq_some_iff] at e
    obtain ⟨ps, e, rfl⟩ := e
    exact .lst (.inl h) (pdTs_dp r e)
  | _, _, _, .lsk h r, e => by
    simp only [pdT, Option.map_eq_some_iff] at e
    obtain ⟨ps, e, rfl⟩ := e
    exact .lst (h H) (pdTs_dp r e)
  | _, _, _, .ref h, e => by simp [pdT] at e
theorem pdTs_dp {K : Frag} {M : Pl} {H : Hp} : ∀ {d : List D} {v : List V} {p : List PyData}, RVs K M H d v → pdTs d = some p → DpAll K H v p
  | _, _, _, .nil, e => by simp only [pdTs, Option.some.injEq] at e; subst e; exact .nil
  | _, _, _, .cons (d := d) h t, e => by
    unfold pdTs at e
    cases q : pdT d with
    | none => rw [q] at e; cases e
    | some y =>
      rw [q] at e
      simp only [Option.map_eq_some_iff] at e
      obtain ⟨ps, e, rfl⟩ := e
      exact .cons (pdT_dp h q) (pdTs_dp t e)
end
theorem pdS_dp {T : List (Addr × Str)} {K : Frag} {M : Pl} {H : Hp} {st : DSt} {d : D} {v : V} {p : PyData} (s : RS T K M st H) (r : RV K M H d v) (e : pdS st d = some p) : Dp K H v p := by
  cases d with
  | ref n =>
    cases r with
    | ref h =>
      obtain ⟨o, e1, ro⟩ := s.atM h
      unfold pdS at e
      simp only [e1] at e
      cases o with
      | lst zs =>
        simp only [Option.map_eq_some_iff] at e
        obtain ⟨ps, e, rfl⟩ := e
        obtain ⟨ys, q, rs⟩ := ro
        exact .lst (.inl (.inl q)) (pdTs_dp rs e)
      | dK _ => cases e
      | dT _ => cases e
  | _ => exact pdT_dp r e
structure El (k c : Nat) (d : PyData) : Prop where
  sh : d.showable = true
  dp : d.depth ≤ k
  ln : d.shown.length ≤ c
  cl : d.canLay0 = true
theorem El.mono {k c k' c' : Nat} {d : PyData} (h : El k c d) (hk : k ≤ k') (hc : c ≤ c') : El k' c' d := ⟨h.sh, Nat.le_trans h.dp hk, Nat.le_trans h.ln hc, h.cl⟩
theorem el_all {k c : Nat} : ∀ {ds : List PyData}, (∀ x ∈ ds, El k c x) → PyData.showableAll ds = true ∧ PyData.depthAll ds ≤ k ∧ ((PyData.shownAll ds).map (·.length)).sum ≤ ds.length * c ∧ (PyData.shownAll ds).length = ds.length ∧ PyData.canLayAll0 ds = true
  | [], _ => by simp [PyData.showableAll, PyData.depthAll, PyData.shownAll, PyData.canLayAll0]
  | d :: ds, h => by
    obtain ⟨a, b, e, f, g⟩ := el_all (ds := ds) fun x hx => h x (List.mem_cons_of_mem _ hx)
    have h1 := h d List.mem_cons_self
    refine ⟨?_, ?_, ?_, ?_, ?_⟩
    · simp only [PyData.showableAll, h1.sh, a, Bool.and_self]
    · simp only [PyData.depthAll]
      have := h1.dp
      omega
    · simp only [PyData.shownAll, List.map_cons, List.sum_cons, List.length_cons]
      have := h1.ln
      rw [Nat.succ_mul]
      omega
    · simp only [PyData.shownAll, List.length_cons, f]
    · simp only [PyData.canLayAll0, h1.cl, g, Bool.and_self]
theorem el_tuple {k c m : Nat} {ds : List PyData} (h : ∀ x ∈ ds, El k c x) (l : ds.length ≤ m) : El (k + 1) (m * (c + 2) + 3) (.tuple ds) := by
  obtain ⟨a, b, e, f, g⟩ := el_all h
  have z := tupleText_len_le (PyData.shownAll ds)
  have z1 : ds.length * c ≤ m * c := Nat.mul_le_mul_right c l
  refine ⟨by simp only [PyData.showable]; exact a, by simp only [PyData.depth]; omega, ?_, by simp only [PyData.canLay0]; exact g⟩
  simp only [PyData.shown]
  rw [f] at z
  rw [Nat.mul_add]
  omega
theorem el_list {k c m : Nat} {ds : List PyData} (h : ∀ x ∈ ds, El k c x) (l : ds.length ≤ m) : El (k + 1) (m * (c + 2) + 3) (.list ds) := by
  obtain ⟨a, b, e, f, g⟩ := el_all h
  have z := listText_len_le (PyData.shownAll ds)
  have z1 : ds.length * c ≤ m * c := Nat.mul_le_mul_right c l
  refine ⟨by simp only [PyData.showable]; exact a, by simp only [PyData.depth]; omega, ?_, by simp only [PyData.canLay0]; exact g⟩
  simp only [PyData.shown]
  rw [f] at z
  rw [Nat.mul_add]
  omega
theorem el_int {i : Int} (h0 : -100 ≤ i) (h1 : i ≤ 1000) : El 0 20 (.int i) := by
  refine ⟨?_, by simp [PyData.depth], ?_, by simp [PyData.canLay0]⟩
  · simp only [PyData.showable]
    refine decide_eq_true ?_
    have z : i.natAbs ≤ 1000 := by omega
    have y : i.natAbs.log2 ≤ i.natAbs := Nat.log2_le_self _
    omega
  · have all : ((List.range 1101).all fun n => decide ((PyData.shown (.int ((n : Int) - 100))).length ≤ 20)) = true := by decide +kernel
    have z := List.all_eq_true.mp all (i + 100).toNat (List.mem_range.mpr (by omega))
    have e : (((i + 100).toNat : Nat) : Int) - 100 = i := by omega
    rw [e] at z
    exact of_decide_eq_true z
def Sm (k c : Nat) (d : D) : Prop := ∃ p, pdT d = some p ∧ El k c p
theorem Sm.mono {k c k' c' : Nat} {d : D} (h : Sm k c d) (hk : k ≤ k') (hc : c ≤ c') : Sm k' c' d := by
  obtain ⟨p, e, h⟩ := h
  exact ⟨p, e, h.mono hk hc⟩
theorem sm_all {k c : Nat} : ∀ {ds : List D}, (∀ x ∈ ds, Sm k c x) → ∃ ps, pdTs ds = some ps ∧ (∀ x ∈ ps, El k c x) ∧ ps.length = ds.length
  | [], _ => ⟨[], by simp [pdTs], by simp, rfl⟩
  | d :: ds, h => by
    obtain ⟨ps, e, a, l⟩ := sm_all (ds := ds) fun x hx => h x (List.mem_cons_of_mem _ hx)
    obtain ⟨p, e1, a1⟩ := h d List.mem_cons_self
    refine ⟨p :: ps, by simp [pdTs, e1, e], fun x hx => ?_, by simp [l]⟩
    rcases List.mem_cons.mp hx with z | z
    · rw [z]; exact a1
    · exact a x z
theorem sm_tup {k c m : Nat} {ds : List D} (h : ∀ x ∈ ds, Sm k c x) (l : ds.length ≤ m) : Sm (k + 1) (m * (c + 2) + 3) (.tup ds) := by
  obtain ⟨ps, e, a, l2⟩ := sm_all h
  exact ⟨.tuple ps, by simp [pdT, e], el_tuple a (by omega)⟩
theorem sm_lst {k c m : Nat} {ds : List D} (h : ∀ x ∈ ds, Sm k c x) (l : ds.length ≤ m) : Sm (k + 1) (m * (c + 2) + 3) (.lst ds) := by
  obtain ⟨ps, e, a, l2⟩ := sm_all h
  exact ⟨.list ps, by simp [pdT, e], el_list a (by omega)⟩
theorem sm_int {i : Int} (h0 : -100 ≤ i) (h1 : i ≤ 1000) : Sm 0 20 (.int i) := ⟨_, by simp [pdT], el_int h0 h1⟩
theorem Sm.shaped {k c : Nat} {p : PyData} (h : El k c p) (hk : k ≤ 50) : SeqAt.shaped p = true := by
  unfold SeqAt.shaped
  rw [h.cl, Bool.true_and]
  exact decide_eq_true (by have := h.dp; omega)
def dRepr : DRs := fun ds st Q => on1 ds fun x => onO (pdS st x) fun p => (p.showable = true ∧ p.depth ≤ 50 ∧ p.shown.length ≤ sizeLine) ∧ Q (.str p.shown) st
section
variable {T : List (Addr × Str)} {X : Cx} {a b c : Expr} {es : List Expr} {fa fb fc : DTE} {fs : DTA} {pos : Pos} {K : Frag}
def dEqD (neg : Bool) : DR2 := fun x y st Q => onO (pdS st x) fun p => onO (pdS st y) fun q => (SeqAt.shaped p = true ∧ SeqAt.shaped q = true) ∧ Q (.bl (if neg then !PyData.eqv p q else PyData.eqv p q)) st
def dEqG (neg : Bool) : DR2 := fun x y st Q => match x, y with
  | .int i, .int j => Q (.bl (if neg then !decide (i = j) else decide (i = j))) st
  | .bl i, .bl j => Q (.bl (if neg then !decide (i = j) else decide (i = j))) st
  | .str i, .str j => Q (.bl (if neg then !decide (i = j) else decide (i = j))) st
  | x, y => dEqD neg x y st Q
def rNe2 (K : Frag) : R2 := fun x y H Q => rNe x y H Q ∨ rNeD K x y H Q
theorem opD_ne : OpD T K (rNe2 K) (dEqG true) := by
  intro M H st x y vx vy Q' Q s rx ry h k
  have gen : dEqD true x y st Q' → rNe2 K vx vy H Q := fun h => by
    obtain ⟨p, e1, h⟩ := onO.of h
    obtain ⟨q, e2, ⟨h1, h2⟩, h⟩ := onO.of h
    exact .inr ⟨p, q, pdS_dp s rx e1, pdS_dp s ry e2, h1, h2, k.here s (.bl _) h⟩
  unfold dEqG at h
  split at h
  · cases rx
    cases ry
    exact .inl ⟨rfl, by rw [dec_int]; exact k.here s (.bl _) (by simpa [BEq.beq] using h)⟩
  · cases rx
    cases ry
    exact .inl ⟨rfl, by rw [dec_bl]; exact k.here s (.bl _) (by simpa [BEq.beq] using h)⟩
  · cases rx
    cases ry
    refine .inl ⟨rfl, ?_⟩
    rename_i i j
    have e : decide (V.str i = V.str j) = decide (i = j) := by
      by_cases z : i = j
      · rw [z]; simp
      · rw [decide_eq_false z]; exact decide_eq_false fun q => z (by cases q; rfl)
    rw [e]
    exact k.here s (.bl _) h
  · exact gen h
abbrev dNe : DR2 := dEqG true
theorem op_ne2 (hu : X.A.units + 64 < cLine) : OpR X (compareOp .NotEq) (rNe2 X.K) := OpR.or op_ne (op_neD hu)
def flatD : D → Bool
  | .non => true
  | .bl _ => true
  | .int _ => true
  | .str _ => true
  | _ => false
def eqF : D → D → Bool
  | .non, .non => true
  | .bl a, .bl b => a == b
  | .bl a, .int b => (if a then 1 else 0) == b
  | .int a, .bl b => a == (if b then 1 else 0)
  | .int a, .int b => a == b
  | .str a, .str b => a == b
  | _, _ => false
theorem RV.flat {M : Pl} {H : Hp} {d : D} {v : V} (r : RV K M H d v) (h : flatD d = true) : flatV v = true := by cases r <;> first | rfl | cases h
theorem RV.eqF {M : Pl} {H : Hp} {d e : D} {v w : V} (r : RV K M H d v) (q : RV K M H e w) (h1 : flatD d = true) (h2 : flatD e = true) : eqV v w = DL.eqF d e := by
  cases r <;> cases q <;> first | rfl | cases h1 | cases h2
theorem RVs.flat {M : Pl} {H : Hp} : ∀ {ds : List D} {vs : List V}, RVs K M H ds vs → ds.all flatD = true → vs.all flatV = true
  | _, _, .nil, _ => rfl
  | _, _, .cons h t, e => by
    rw [List.all_cons, Bool.and_eq_true] at e ⊢
    exact ⟨h.flat e.1, RVs.flat t e.2⟩
theorem RVs.inF {M : Pl} {H : Hp} {x : D} {v : V} (r : RV K M H x v) (hx : flatD x = true) : ∀ {ds : List D} {vs : List V}, RVs K M H ds vs → ds.all flatD = true → inV v vs = ds.any fun y => DL.eqF y x
  | _, _, .nil, _ => rfl
  | _, _, .cons h t, e => by
    rw [List.all_cons, Bool.and_eq_true] at e
    have z := RVs.inF r hx t e.2
    unfold inV at z ⊢
    rw [List.any_cons, List.any_cons, z, h.eqF r e.1 hx]
def dInG (neg : Bool) : DR2 := fun x y st Q => onO (seqS st y) fun ds => (flatD x = true ∧ ds.all flatD = true) ∧ Q (.bl (if neg then !(ds.any fun y => eqF y x) else ds.any fun y => eqF y x)) st
theorem opD_in (neg : Bool) : OpD T K (rIn K neg) (dInG neg) := by
  intro M H st x y vx vy Q' Q s rx ry h k
  obtain ⟨ds, e, ⟨h1, h2⟩, h⟩ := onO.of h
  obtain ⟨p, xs, rfl, sq, rs⟩ := seqS.rd s ry e
  refine ⟨p, xs, rfl, sq, rx.flat h1, rs.flat h2, ?_⟩
  rw [rs.inF rx h1 h2]
  exact k.here s (.bl _) h
abbrev dIn : DR2 := dInG false
abbrev dNotIn : DR2 := dInG true
def dChain (r r' : DR2) (fa fb fc : DTE) : DTE := fun ρ st Q => fa ρ st fun x st1 => fb ρ st1 fun y st2 => r x y st2 fun z st3 => onB z fun k => if k = true then fc ρ st3 fun w st4 => r' y w st4 Q else Q (.bl false) st3
end
end DL
namespace DL
open PySem PySem.Spec PyProof.Rows L2 LamX PySem.W SL
structure DEnds where
  nx : DEnv → DSt → Prop
  rt : DK
  bk : DEnv → DSt → Prop := fun _ _ => False
  ct : DEnv → DSt → Prop := fun _ _ => False
abbrev DTS := DEnds → DEnv → DSt → Prop
def KnE (T : List (Addr × Str)) (K : Frag) (M : Pl) (H : Hp) (N : DEnv → DSt → Prop) (N' : L2.St → Hp → Prop) : Prop :=
  ∀ M' H' σ' r' st', Grow M H M' H' → RS T K M' st' H' → RE K M' H' r' σ' → N r' st' → N' σ' H'
structure KnS (T : List (Addr × Str)) (K : Frag) (M : Pl) (H : Hp) (E : DEnds) (E' : Ends) : Prop where
  nx : KnE T K M H E.nx E'.nx
  rt : Kn T K M H E.rt E'.rt
  bk : KnE T K M H E.bk E'.bk
  ct : KnE T K M H E.ct E'.ct
theorem KnE.grow {T : List (Addr × Str)} {K : Frag} {M M1 : Pl} {H H1 : Hp} {N : DEnv → DSt → Prop} {N' : L2.St → Hp → Prop} (k : KnE T K M H N N') (g : Grow M H M1 H1) : KnE T K M1 H1 N N' :=
  fun M' H' σ' r' st' g1 s re q => k M' H' σ' r' st' (g.trans g1) s re q
theorem KnE.here {T : List (Addr × Str)} {K : Frag} {M : Pl} {H : Hp} {N : DEnv → DSt → Prop} {N' : L2.St → Hp → Prop} {σ : L2.St} {r : DEnv} {st : DSt} (k : KnE T K M H N N') (s : RS T K M st H) (re : RE K M H r σ) (q : N r st) : N' σ H :=
  k M H σ r st (Grow.refl M H) s re q
theorem KnS.grow {T : List (Addr × Str)} {K : Frag} {M M1 : Pl} {H H1 : Hp} {E : DEnds} {E' : Ends} (k : KnS T K M H E E') (g : Grow M H M1 H1) : KnS T K M1 H1 E E' := ⟨k.nx.grow g, k.rt.grow g, k.bk.grow g, k.ct.grow g⟩
def liftS (T : List (Addr × Str)) (K : Frag) (F : DTS) : TS := fun E σ H => ∃ M r st E', RS T K M st H ∧ RE K M H r σ ∧ F E' r st ∧ KnS T K M H E' E
abbrev DSt1 (T : List (Addr × Str)) (X : Cx) (s : Stmt) (F : DTS) : Prop := PS X s (liftS T X.K F)
abbrev DSs (T : List (Addr × Str)) (X : Cx) (s : List Stmt) (F : DTS) : Prop := PSs X s (liftS T X.K F)
def sNext : DTS := fun E r st => E.nx r st
def sSeq (F G : DTS) : DTS := fun E r st => F { E with nx := G E } r st
def sNever : DTS := fun _ _ _ => False
def sDrop (f : DTE) : DTS := fun E r st => f r st fun _ st1 => E.nx r st1
def sRet (f : DTE) : DTS := fun E r st => f r st E.rt
def sRetN : DTS := fun E _ st => E.rt .non st
def sIf (t : DTT) (F G : DTS) : DTS := fun E r st => t r st fun b st1 => if b = true then F E r st1 else G E r st1
section
variable {T : List (Addr × Str)} {X : Cx} {st : Stmt} {rest : List Stmt} {F G : DTS} {e : Expr} {f : DTE} {pos : Pos}
theorem ds_nil : DSs T X [] sNext := PSs.imp pss_nil fun E σ H ⟨M, r, st, E', s, re, h, k⟩ => k.nx.here s re h
theorem ds_cons (h1 : DSt1 T X st F) (h2 : DSs T X rest G) : DSs T X (st :: rest) (sSeq F G) := PSs.imp (pss_cons h1 h2) fun E σ H ⟨M, r, st, E', s, re, h, k⟩ =>
  ⟨M, r, st, _, s, re, h, fun M1 H1 σ1 r1 st1 g1 s1 re1 q => ⟨M1, r1, st1, E', s1, re1, q, k.grow g1⟩, k.rt, k.bk, k.ct⟩
theorem ds_one (h1 : DSt1 T X st F) : DSs T X [st] F := pss_one h1
theorem ds_never : DSt1 T X st sNever := PS.imp ps_never fun E σ H ⟨M, r, st, E', s, re, h, k⟩ => h.elim
theorem ds_expr (he : DE T X e f) (hs : swapsWith e none pos.line X.env = pure false := by rfl) : DSt1 T X (.Expr e pos) (sDrop f) := PS.imp (ps_expr he hs) fun E σ H ⟨M, r, st, E', s, re, h, k⟩ =>
  ⟨M, r, st, _, s, re, h, fun M1 H1 st1 d v g1 s1 r1 q => k.nx M1 H1 σ r st1 g1 s1 (re.grow g1) q⟩
theorem ds_ret (he : DE T X e f) : DSt1 T X (.Return (some e) pos) (sRet f) := PS.imp (ps_ret he) fun E σ H ⟨M, r, st, E', s, re, h, k⟩ => ⟨M, r, st, _, s, re, h, k.rt⟩
theorem ds_if {c : Expr} {a b : List Stmt} {t : DTT} (hc : DT T X c t) (ha : DSs T X a F) (hb : DSs T X b G) : DSt1 T X (.If c a b pos) (sIf t F G) := PS.imp (ps_if hc ha hb) fun E σ H ⟨M, r, st, E', s, re, h, k⟩ =>
  ⟨M, r, st, _, s, re, h, fun M1 H1 st1 c g1 s1 q => by
    cases c with
    | true => rw [if_pos rfl] at q ⊢; exact ⟨M1, r, st1, E', s1, re.grow g1, q, k.grow g1⟩
    | false => rw [if_neg (by decide)] at q ⊢; exact ⟨M1, r, st1, E', s1, re.grow g1, q, k.grow g1⟩⟩
end
abbrev DTG := D → DEnv → DSt → (DEnv → DSt → Prop) → Prop
abbrev DTGs := List D → DEnv → DSt → (DEnv → DSt → Prop) → Prop
def liftG (T : List (Addr × Str)) (K : Frag) (vs : List Nat) (g : DTG) : TG := fun v σ H Q => ∃ M r st d Q', RS T K M st H ∧ RE K M H r σ ∧ RV K M H d v ∧ g d r st Q' ∧
  ∀ M' H' σ' r' st', Grow M H M' H' → RS T K M' st' H' → RE K M' H' r' σ' → wipe σ' vs = wipe σ vs → Q' r' st' → Q σ' H'
def liftGs (T : List (Addr × Str)) (K : Frag) (vs : List Nat) (g : DTGs) : TGs := fun v σ H Q => ∃ M r st d Q', RS T K M st H ∧ RE K M H r σ ∧ RVs K M H d v ∧ g d r st Q' ∧
  ∀ M' H' σ' r' st', Grow M H M' H' → RS T K M' st' H' → RE K M' H' r' σ' → wipe σ' vs = wipe σ vs → Q' r' st' → Q σ' H'
theorem PG.imp {X : Cx} {e : Expr} {t t' : TG} (h : PG X e t) (i : ∀ v σ H Q, t' v σ H Q → t v σ H Q) : PG X e t' := ⟨fun pins s σ H v u Q I r z => h.run pins s σ H v u Q I r (i v σ H Q z)⟩
theorem PGs.imp {X : Cx} {e : List Expr} {t t' : TGs} (h : PGs X e t) (i : ∀ v σ H Q, t' v σ H Q → t v σ H Q) : PGs X e t' := ⟨fun pins s σ H v u Q I r z => h.run pins s σ H v u Q I r (i v σ H Q z)⟩
abbrev DG (T : List (Addr × Str)) (X : Cx) (vs : List Nat) (e : Expr) (g : DTG) : Prop := PG X e (liftG T X.K vs g)
abbrev DGs (T : List (Addr × Str)) (X : Cx) (vs : List Nat) (e : List Expr) (g : DTGs) : Prop := PGs X e (liftGs T X.K vs g)
theorem RE.set {K : Frag} {M : Pl} {H : Hp} {r : DEnv} {σ : L2.St} (h : RE K M H r σ) (i : Nat) {d : D} {v : V} (rv : RV K M H d v) : RE K M H (r.set i (some d)) (σ.set i (some v)) := by
  refine ⟨by rw [List.length_set, List.length_set]; exact h.len, fun j c e => ?_⟩
  by_cases q : j = i
  · subst q
    have lt : j < r.length := by
      have := (List.getElem?_eq_some_iff.mp e).1
      rw [List.length_set] at this
      exact this
    rw [List.getElem?_set_self lt] at e
    cases e
    exact ⟨v, List.getElem?_set_self (by rw [← h.len]; exact lt), rv⟩
  · rw [List.getElem?_set_ne (fun z => q z.symm)] at e ⊢
    exact h.at_ j c e
theorem wipe_set {σ : L2.St} {i : Nat} {x : Option V} : ∀ {vs : List Nat}, i ∈ vs → wipe (σ.set i x) vs = wipe σ vs
  | [], h => by cases h
  | v :: vs, h => by
    show (wipe (σ.set i x) vs).set v none = (wipe σ vs).set v none
    by_cases m : i ∈ vs
    · rw [wipe_set m]
    · rcases List.mem_cons.mp h with z | z
      · subst z
        have gen : ∀ (ws : List Nat) (τ : L2.St), i ∉ ws → wipe (τ.set i x) ws = (wipe τ ws).set i x := by
          intro ws
          induction ws with
          | nil => intro τ _; rfl
          | cons w ws ih =>
            intro τ hn
            rw [List.mem_cons, not_or] at hn
            show (wipe (τ.set i x) ws).set w none = ((wipe τ ws).set w none).set i x
            rw [ih τ hn.2, List.set_comm _ _ hn.1]
        rw [gen vs σ m, List.set_set]
      · exact absurd z m
def gNm (i : Nat) : DTG := fun d r st Q => Q (r.set i (some d)) st
def gsNil : DTGs := fun ds r st Q => match ds with | [] => Q r st | _ => False
def gsCons (g : DTG) (h : DTGs) : DTGs := fun ds r st Q => match ds with | d :: e => g d r st fun r1 st1 => h e r1 st1 Q | [] => False
def gTp (n : Nat) (g : DTGs) : DTG := fun d r st Q => match d with
  | .tup ds => ds.length = n ∧ g ds r st Q
  | .tuk ds => ds.length = n ∧ g ds r st Q
  | .lst ds => ds.length = n ∧ g ds r st Q
  | _ => False
theorem PG.or {X : Cx} {e : Expr} {t t' : TG} (h : PG X e t) (h' : PG X e t') : PG X e fun v σ H Q => t v σ H Q ∨ t' v σ H Q := ⟨fun pins s σ H v u Q I r z => by
  rcases z with z | z
  · exact h.run pins s σ H v u Q I r z
  · exact h'.run pins s σ H v u Q I r z⟩
section
variable {T : List (Addr × Str)} {X : Cx} {vs : List Nat} {pos : Pos}
theorem dg_name {i : Nat} {x : Str} (hN : X.N.Nodup) (hi : X.N[i]? = some x) (hx : Loc X.env.scope x) (m : i ∈ vs) (hf : X.fn x = true ∨ X.env.scope.names.lookup x = some .local := by first | exact .inl rfl | exact .inr rfl | assumption) : DG T X vs (.Name x pos) (gNm i) :=
  PG.imp (pg_name hN hi hx hf) fun v σ H Q ⟨M, r, st, d, Q', s, re, rv, h, k⟩ => k M H _ _ st (Grow.refl M H) s (re.set i rv) (wipe_set m) h
theorem dgs_nil : DGs T X vs [] gsNil := PGs.imp pgs_nil fun v σ H Q ⟨M, r, st, d, Q', s, re, rv, h, k⟩ => by
  cases d with
  | nil => cases rv; exact ⟨rfl, k M H σ r st (Grow.refl M H) s re rfl h⟩
  | cons _ _ => exact h.elim
theorem dgs_cons {e : Expr} {es : List Expr} {g : DTG} {h : DTGs} (h1 : DG T X vs e g) (h2 : DGs T X vs es h) (hs : (assignEach (e :: es) X.env).map (·.2) = assign e X.env :: (assignEach es X.env).map (·.2) := by rfl) : DGs T X vs (e :: es) (gsCons g h) :=
  PGs.imp (pgs_cons h1 h2 hs) fun v σ H Q ⟨M, r, st, d, Q', s, re, rv, h, k⟩ => by
    cases d with
    | nil => exact h.elim
    | cons d ds =>
      cases rv with
      | cons r1 rs => exact ⟨_, _, rfl, M, r, st, d, _, s, re, r1, h, fun M1 H1 σ1 r1' st1 g1 s1 re1 w1 q => ⟨M1, r1', st1, ds, Q', s1, re1, rs.grow g1, q, fun M2 H2 σ2 r2 st2 g2 s2 re2 w2 q2 => k M2 H2 σ2 r2 st2 (g1.trans g2) s2 re2 (w2.trans w1) q2⟩⟩
theorem dg_tup {es : List Expr} {k : Nat} {g : DTGs} {n : Nat} (hc : X.calm = true) (h : DGs T X vs es g) (hn : (assignEach es X.env).length = n := by rfl) (hst : (assignEach es X.env).findIdx? (·.1) = none := by rfl) : DG T X vs (.Tuple es k pos) (gTp n g) :=
  PG.imp (PG.or (pg_tup hc h hn hst) (pg_lst hc h hn hst)) fun v σ H Q ⟨M, r, st, d, Q', s, re, rv, hh, kk⟩ => by
    cases d with
    | tup ds => cases rv with | tup nn e q rs => exact .inl ⟨_, _, rfl, .inl (.inr ⟨_, e⟩), by rw [← rs.length]; exact hh.1, M, r, st, ds, Q', s, re, rs, hh.2, kk⟩
    | tuk ds => cases rv with | tuk nn e rs => exact .inl ⟨_, _, rfl, .inl (.inl e), by rw [← rs.length]; exact hh.1, M, r, st, ds, Q', s, re, rs, hh.2, kk⟩
    | lst ds => cases rv with | lst nn e rs => exact .inr ⟨_, _, rfl, .inl (.inl e), by rw [← rs.length]; exact hh.1, M, r, st, ds, Q', s, re, rs, hh.2, kk⟩
    | _ => exact hh.elim
def sSet (i : Nat) (f : DTE) : DTS := fun E r st => f r st fun d st1 => E.nx (r.set i (some d)) st1
theorem ds_set {i : Nat} {x : Str} {e : Expr} {f : DTE} {pos' : Pos} (hN : X.N.Nodup) (hi : X.N[i]? = some x) (hx : Loc X.env.scope x) (he : DE T X e f) (hs : swapsWith e (some (.Name x pos')) pos.line X.env = pure false := by rfl)
    (hf : X.fn x = true ∨ X.env.scope.names.lookup x = some .local := by first | exact .inl rfl | exact .inr rfl | assumption) : DSt1 T X (.Assign [.Name x pos'] e pos) (sSet i f) :=
  PS.imp (ps_set hN hi hx he hs hf) fun E σ H ⟨M, r, st, E', s, re, h, k⟩ => ⟨M, r, st, _, s, re, h, fun M1 H1 st1 d v g1 s1 r1 q => k.nx M1 H1 _ _ st1 g1 s1 ((re.grow g1).set i r1) q⟩
def sAsg (f : DTE) (g : DTG) : DTS := fun E r st => f r st fun d st1 => g d r st1 E.nx
theorem ds_asg {tg e : Expr} {f : DTE} {g : DTG} (he : DE T X e f) (hg : DG T X vs tg g) (hs : swapsWithSole [tg] e pos.line X.env = pure false := by rfl) (hw : swappedStores [tg] e X.env = pure none := by rfl) (h1 : (assignEach [tg] X.env).map (·.2) = [assign tg X.env] := by rfl) : DSt1 T X (.Assign [tg] e pos) (sAsg f g) :=
  PS.imp (ps_asg he hg hs hw h1) fun E σ H ⟨M, r, st, E', s, re, h, k⟩ => ⟨M, r, st, _, s, re, h, fun M1 H1 st1 d v g1 s1 r1 q =>
    ⟨M1, r, st1, d, _, s1, re.grow g1, r1, q, fun M2 H2 σ2 r2 st2 g2 s2 re2 _ q2 => k.nx M2 H2 σ2 r2 st2 (g1.trans g2) s2 re2 q2⟩⟩
def sPar (i j : Nat) (f : DTA) : DTS := fun E r st => f r st fun ds st1 => on2 ds fun d e => E.nx ((r.set i (some d)).set j (some e)) st1
theorem ds_par {i j : Nat} {x y : Str} {a b : Expr} {f : DTA} {px py pt : Pos} {kt k2 pt2} (hc : X.calm = true) (hN : X.N.Nodup) (hi : X.N[i]? = some x) (hj : X.N[j]? = some y) (hij : i ≠ j) (hx : X.env.scope.names.lookup x = some .local) (hy : X.env.scope.names.lookup y = some .local) (ha : DA T X [a, b] f)
    (hw : swappedStores [.Tuple [.Name x px, .Name y py] kt pt] (.Tuple [a, b] k2 pt2) X.env = pure (some [x, y])) (hs : swapsWithSole [.Tuple [.Name x px, .Name y py] kt pt] (.Tuple [a, b] k2 pt2) pos.line X.env = pure false := by rfl) :
    DSt1 T X (.Assign [.Tuple [.Name x px, .Name y py] kt pt] (.Tuple [a, b] k2 pt2) pos) (sPar i j f) :=
  PS.imp (ps_par hc hN hi hj hij hx hy ha hw hs) fun E σ H ⟨M, r, st, E', s, re, h, k⟩ => ⟨M, r, st, _, s, re, h, fun M1 H1 st1 ds vs g1 s1 r1 q => by
    obtain ⟨d, e, rfl, q⟩ := on2.of q
    obtain ⟨v, w, rfl, rv, rw'⟩ := r1.two
    exact ⟨v, w, rfl, k.nx M1 H1 _ _ st1 g1 s1 (((re.grow g1).set i rv).set j rw') q⟩⟩
def gSb (fo fi : DTE) : DTG := fun d r st Q => fo r st fun o st1 => fi r st1 fun i st2 => match o with
  | .ref n => onI i fun k => match st2[n]? with
    | some (.lst xs) => onO (ixN xs.length k) fun j => Q r (st2.set n (.lst (xs.set j d)))
    | _ => False
  | _ => False
theorem dg_sub {o i : Expr} {fo fi : DTE} (ho : DE T X o fo) (hi : DE T X i fi)
    (ha : ∀ v, assign (.Subscript o i pos) X.env v = (do let ov ← holding [v] (eval o X.env); let iv ← holding [v, ov] (eval i X.env); standAt pos; holding [v, ov, iv] (setItem ov iv v); release [v, ov, iv] []) := by intro _; rfl) : DG T X vs (.Subscript o i pos) (gSb fo fi) :=
  PG.imp (pg_sub ho hi set_list ha) fun v σ H Q ⟨M, r, st, d, Q', s, re, rv, h, k⟩ =>
    ⟨M, r, st, _, s, re, h, fun M1 H1 st1 o vo g1 s1 r1 q => ⟨M1, r, st1, _, s1, re.grow g1, q, fun M2 H2 st2 i vi g2 s2 r2 q2 => by
      cases o with
      | ref n =>
        obtain ⟨kk, rfl, q3⟩ := onI.of q2
        cases r2
        have r1' := r1.grow g2
        cases r1' with
        | ref hm =>
          split at q3
          · rename_i xs e1
            obtain ⟨j, e2, q4⟩ := onO.of q3
            obtain ⟨ys, hy, rs⟩ := s2.obj n _ _ hm e1
            refine ⟨_, ys, kk, j, rfl, rfl, hy, by rw [← rs.length]; exact e2, ?_⟩
            have gw : Grow M2 H2 M2 (upd H2 _ (.lst (ys.set j v))) := Grow.write s2.nd hm
            refine k M2 _ σ r _ ((g1.trans g2).trans gw) (s2.write (u := .lst (xs.set j d)) hm ⟨ys.set j v, upd_same, ?_⟩) ((re.grow (g1.trans g2)).grow gw) rfl q4
            exact ((rs.grow gw).set (((rv.grow g1).grow g2).grow gw) j)
          · exact q3.elim
      | _ => exact q2.elim⟩⟩
end
end DL
namespace DL
open PySem PySem.Spec PyProof.Rows L2 LamX PySem.W SL
structure Later (M : Pl) (H : Hp) (M' : Pl) (H' : Hp) : Prop where
  keep : ∀ a o, a ∉ M.m → H a = some o → (∀ ps, o ≠ .tbl ps) → H' a = some o
  get : ∀ n a, M.at_ n = some a → M'.at_ n = some a
  notin : ∀ a, a ∉ M.m → NT H a → a ∉ M'.m
theorem Grow.later {M M' : Pl} {H H' : Hp} (g : Grow M H M' H') : Later M H M' H' := ⟨g.keep, fun _ _ h => g.get h, fun _ h t => g.notin h t⟩
theorem Later.trans {M M1 M2 : Pl} {H H1 H2 : Hp} (a : Later M H M1 H1) (b : Later M1 H1 M2 H2) (th : ∀ a, NT H a → NT H1 a) : Later M H M2 H2 :=
  ⟨fun c o n h t => b.keep c o (a.notin c n ⟨o, h, t⟩) (a.keep c o n h t) t, fun n c h => b.get n c (a.get n c h), fun c n h => b.notin c (a.notin c n h) (th c h)⟩
theorem Rd.later {M M' : Pl} {H H' : Hp} (g : Later M H M' H') {a : Addr} {xs : List V} (n : a ∉ M.m) (r : Rd H a (.lst xs)) : Rd H' a (.lst xs) := by
  rcases r with r | ⟨o, r⟩
  · exact .inl (g.keep a _ n r (fun ps z => by cases z))
  · exact .inr ⟨o, g.keep a _ n r (fun ps z => by cases z)⟩
mutual
theorem RV.later {K : PySem.W.Frag} {M M' : Pl} {H H' : Hp} (g : Later M H M' H') : ∀ {d : D} {v : V}, RV K M H d v → RV K M' H' d v
  | _, _, .non => .non
  | _, _, .bl b => .bl b
  | _, _, .int i => .int i
  | _, _, .str x => .str x
  | _, _, .tup n h e r => .tup (g.notin _ n ⟨_, h, fun ps z => by cases z⟩) (g.keep _ _ n h (fun ps z => by cases z)) e (r.later g)
  | _, _, .tuk n h r => .tuk (g.notin _ n ⟨_, h, fun ps z => by cases z⟩) (g.keep _ _ n h (fun ps z => by cases z)) (r.later g)
  | _, _, .lst n h r => .lst (g.notin _ n ⟨_, h, fun ps z => by cases z⟩) (g.keep _ _ n h (fun ps z => by cases z)) (r.later g)
  | _, _, .scr n h r => .scr (g.notin _ n (Rd.there h)) (Rd.later g n h) (r.later g)
  | _, _, .lsk h r => .lsk h (r.later g)
  | _, _, .ref h => .ref (g.get _ _ h)
theorem RVs.later {K : PySem.W.Frag} {M M' : Pl} {H H' : Hp} (g : Later M H M' H') : ∀ {d : List D} {v : List V}, RVs K M H d v → RVs K M' H' d v
  | _, _, .nil => .nil
  | _, _, .cons h t => .cons (h.later g) (t.later g)
end
theorem RO.later {K : PySem.W.Frag} {M M' : Pl} {H H' : Hp} (g : Later M H M' H') {o : O} {a : Addr} (h : RO K M H o a) (e : H' a = H a) : RO K M' H' o a := by
  cases o with
  | lst ds => obtain ⟨xs, h1, h2⟩ := h; exact ⟨xs, e.trans h1, h2.later g⟩
  | dK kvs => obtain ⟨ys, h1, h2, h3⟩ := h; exact ⟨ys, e.trans h1, h2, h3.later g⟩
  | dT kvs => obtain ⟨ys, h1, h2, h3⟩ := h; exact ⟨ys, e.trans h1, h2, h3.later g⟩
def Pl.hide (M : Pl) (p : Addr) : Pl := ⟨M.h + 1, p :: M.m⟩
theorem Pl.hide_at (M : Pl) (p : Addr) (n : Nat) : (M.hide p).at_ n = M.at_ n := by
  unfold Pl.at_ Pl.hide
  show (p :: M.m)[M.h + 1 + n]? = M.m[M.h + n]?
  rw [show M.h + 1 + n = (M.h + n) + 1 by omega, List.getElem?_cons_succ]
theorem Pl.hide_app (M : Pl) (p : Addr) (m : List Addr) : (M.hide p).app m = (M.app m).hide p := rfl
theorem Pl.hide_inj {M N : Pl} {p : Addr} (h : M.hide p = N.hide p) : M = N := by
  cases M
  cases N
  unfold Pl.hide at h
  simp only [Pl.mk.injEq, List.cons.injEq, Nat.add_right_cancel_iff, true_and] at h
  rw [h.1, h.2]
theorem later_hide {M : Pl} {H : Hp} {p : Addr} {o : HO} (np : H p = none) : Later M H (M.hide p) (upd H p o) :=
  ⟨fun a u _ e _ => by rw [upd_ne (ne_of_none e np)]; exact e, fun n a h => by rw [Pl.hide_at]; exact h, fun a h t z => by
    rcases List.mem_cons.mp z with z | z
    · exact t.ne np z
    · exact h z⟩
theorem later_unhide {M : Pl} {H : Hp} {p : Addr} : Later (M.hide p) H M H :=
  ⟨fun _ _ _ e _ => e, fun n a h => by rw [← Pl.hide_at M p n]; exact h, fun a h _ z => h (List.mem_cons_of_mem _ z)⟩
theorem later_own {M : Pl} {H : Hp} {p : Addr} : Later (M.hide p) H (M.app [p]) H :=
  ⟨fun _ _ _ e _ => e, fun n a h => by
    rw [Pl.hide_at] at h
    unfold Pl.at_ at h ⊢
    show (M.m ++ [p])[M.h + n]? = some a
    rw [List.getElem?_append_left (List.getElem?_eq_some_iff.mp h).1]
    exact h, fun a h _ z => h (by
    rcases List.mem_append.mp z with z | z
    · exact List.mem_cons_of_mem _ z
    · rw [List.mem_singleton.mp z]; exact List.mem_cons_self)⟩
section
variable {T : List (Addr × Str)} {K : Frag} {M M' : Pl} {H H' : Hp} {st : DSt} {p : Addr}
theorem RS.hide (s : RS T K M st H) (np : H p = none) {xs : List V} : RS T K (M.hide p) st (upd H p (.lst xs)) := by
  refine ⟨by show (p :: M.m).length = M.h + 1 + st.length; rw [List.length_cons, s.len]; omega, List.nodup_cons.mpr ⟨s.notin np, s.nd⟩, fun n a o e1 e2 => ?_, tabs_upd s.tabs fun b u hb _ => ne_of_none hb np, fun a ha => ?_⟩
  · rw [Pl.hide_at] at e1
    exact (s.obj n a o e1 e2).later (later_hide np) (upd_ne fun z => s.notin np (by rw [← z]; exact Pl.at_mem e1))
  · have ha' : a ∈ (p :: M.m).take (M.h + 1) := ha
    rw [List.take_succ_cons] at ha'
    rcases List.mem_cons.mp ha' with z | z
    · rw [z]; exact ⟨xs, upd_same⟩
    · exact s.hid.upd np a z
theorem RS.unhide (s : RS T K (M.hide p) st H) : RS T K M st H := by
  have len : (p :: M.m).length = M.h + 1 + st.length := s.len
  rw [List.length_cons] at len
  refine ⟨by omega, (List.nodup_cons.mp s.nd).2, fun n a o e1 e2 => ?_, s.tabs, fun a ha => s.hid a ?_⟩
  · exact (s.obj n a o (by rw [Pl.hide_at]; exact e1) e2).later later_unhide rfl
  · show a ∈ (p :: M.m).take (M.h + 1)
    rw [List.take_succ_cons]
    exact List.mem_cons_of_mem _ ha
theorem RS.own {ds : List D} {xs : List V} (s : RS T K (M.hide p) st H) (hp : H p = some (.lst xs)) (r : RVs K (M.hide p) H ds xs) : RS T K (M.app [p]) (st ++ [.lst ds]) H := by
  have u := s.unhide
  refine ⟨?_, ?_, fun n a o e1 e2 => ?_, s.tabs, fun a ha => ?_⟩
  · show (M.m ++ [p]).length = M.h + (st ++ [O.lst ds]).length
    rw [List.length_append, List.length_append, u.len, Nat.add_assoc]
    rfl
  · show (M.m ++ [p]).Nodup
    rw [List.nodup_append]
    refine ⟨u.nd, by simp, fun a ha b hb => ?_⟩
    rw [List.mem_singleton.mp hb]
    exact fun z => (List.nodup_cons.mp s.nd).1 (z ▸ ha)
  · have e1' : (M.m ++ [p])[M.h + n]? = some a := e1
    by_cases lt : n < st.length
    · rw [List.getElem?_append_left (by rw [u.len]; omega)] at e1'
      rw [List.getElem?_append_left lt] at e2
      exact (s.obj n a o (by rw [Pl.hide_at]; exact e1') e2).later later_own rfl
    · rw [List.getElem?_append_right (by rw [u.len]; omega)] at e1'
      rw [List.getElem?_append_right (by omega)] at e2
      have n0 : M.h + n - M.m.length = 0 := by
        have := (List.getElem?_eq_some_iff.mp e1').1
        simp at this
        omega
      have n1 : n - st.length = 0 := by rw [u.len] at n0; omega
      rw [n0] at e1'
      rw [n1] at e2
      cases e1'
      cases e2
      exact ⟨xs, hp, r.later later_own⟩
  · have ha' : a ∈ (M.m ++ [p]).take M.h := ha
    rw [List.take_append_of_le_length (by rw [u.len]; omega)] at ha'
    exact u.hid a ha'
end
structure DIt where
  items : List D
  src : Option (Nat × List D)
def okI (I : DIt) (st : DSt) (P : Prop) : Prop := match I.src with | none => P | some (n, xs) => st[n]? = some (.lst xs) ∧ P
def okS (I : DIt) (st : DSt) : Prop := I.src = none ∨ ∃ n xs, I.src = some (n, xs) ∧ st[n]? = some (.lst xs)
theorem okI.of {I : DIt} {st : DSt} {P : Prop} (h : okI I st P) : okS I st ∧ P := by
  unfold okI at h
  cases q : I.src with
  | none => rw [q] at h; exact ⟨.inl q, h⟩
  | some n => rw [q] at h; exact ⟨.inr ⟨n.1, n.2, q, h.1⟩, h.2⟩
structure ItOk (T : List (Addr × Str)) (K : Frag) (M : Pl) (H : Hp) (J : It) (I : DIt) : Prop where
  go : ∀ M' H' st', Later M H M' H' → RS T K M' st' H' → okS I st' → ∀ (i : Nat) (d : D), I.items[i]? = some d → J.go i H' ∧ ∀ x H'', J.yld i H' x H'' → Grow M' H' M' H'' ∧ RS T K M' st' H'' ∧ RV K M' H'' d x
  stop : ∀ M' H' st', Later M H M' H' → RS T K M' st' H' → okS I st' → J.stop I.items.length H'
abbrev DTI := DEnv → DSt → (DIt → DSt → Prop) → Prop
def liftI (T : List (Addr × Str)) (K : Frag) (f : DTI) : TI := fun σ H R => ∃ M r st R', RS T K M st H ∧ RE K M H r σ ∧ f r st R' ∧ ∀ M' H' st' J I, Grow M H M' H' → RS T K M' st' H' → R' I st' → ItOk T K M' H' J I → R J H'
theorem PI.imp {X : Cx} {tg e : Expr} {t t' : TI} (h : PI X tg e t) (i : ∀ σ H Q, t' σ H Q → t σ H Q) : PI X tg e t' := ⟨fun pins s σ H Q I z => h.run pins s σ H Q I (i σ H Q z)⟩
abbrev DI (T : List (Addr × Str)) (X : Cx) (tg e : Expr) (f : DTI) : Prop := PI X tg e (liftI T X.K f)
def iSeq (K : Frag) (tl : TE) : TI := fun σ H R => tl σ H fun x H1 => ∃ a, x = .ref a ∧ (((∃ xs, SqL K H1 a xs) ∧ R (Itl K a) H1) ∨ ((∃ xs, SqT K H1 a xs) ∧ R (Itt K a) H1))
section
variable {T : List (Addr × Str)} {X : Cx} {tg : Expr}
theorem pi_seq {l : Expr} {tl : TE} (hl : PE X l tl) : PI X tg l (iSeq X.K tl) := by
  refine ⟨fun pins s σ H R I h => ?_⟩
  refine thn (hl.run pins s σ H _ I h) fun v s1 ⟨x, H1, I1, r1, q1⟩ => ?_
  obtain ⟨a, e, q1⟩ := q1
  subst e
  cases r1
  rcases q1 with ⟨⟨xs, hq⟩, q⟩ | ⟨⟨xs, hq⟩, q⟩
  · obtain ⟨its, rv, p, hz⟩ := I1.list hq
    refine wpAny_pyIter_list p.isList ?_
    refine ⟨s1.heap.objs.size, [s1.heap.objs.size], _, _, H1, rfl, I1.kept (t' := s1.toks) fun b o e => Heap.get?_push_of_some _ e, turn_list a _, ⟨_, Heap.get?_push_size _ rfl, rfl, rfl⟩, fun b hb => ?_, q⟩
    have e : b = s1.heap.objs.size := by simpa using hb
    subst e
    exact I1.fpOk (Nat.le_refl _) (I1.hok.fresh (Nat.le_refl _))
  · obtain ⟨its, rv, p, hz⟩ := I1.tuple hq
    refine wpAny_pyIter_tuple (show s1.heap.IsTuple a its.toArray from p) ?_
    refine ⟨s1.heap.objs.size, [s1.heap.objs.size], _, _, H1, rfl, I1.kept (t' := s1.toks) fun b o e => Heap.get?_push_of_some _ e, turn_tuple a _, ⟨_, Heap.get?_push_size _ rfl, rfl, rfl⟩, fun b hb => ?_, q⟩
    have e : b = s1.heap.objs.size := by simpa using hb
    subst e
    exact I1.fpOk (Nat.le_refl _) (I1.hok.fresh (Nat.le_refl _))
end
def itOf (st : DSt) : D → Option DIt
  | .tup ds => some ⟨ds, none⟩
  | .tuk ds => some ⟨ds, none⟩
  | .lst ds => some ⟨ds, none⟩
  | .scr ds => some ⟨ds, none⟩
  | .ref n => match st[n]? with | some (.lst ds) => some ⟨ds, some (n, ds)⟩ | _ => none
  | _ => none
def wSeq (f : DTE) : DTI := fun r st R => f r st fun d st1 => onO (itOf st1 d) fun I => R I st1
inductive SrcAt (K : Frag) (M : Pl) (H : Hp) (I : DIt) (a : Addr) : Prop
  | lst {xs : List V} : (∀ M' H', Later M H M' H' → SqL K H' a xs) → RVs K M H I.items xs → I.src = none → SrcAt K M H I a
  | tup {xs : List V} : (∀ M' H', Later M H M' H' → SqT K H' a xs) → RVs K M H I.items xs → I.src = none → SrcAt K M H I a
  | ref {n : Nat} : M.at_ n = some a → I.src = some (n, I.items) → SrcAt K M H I a
section
variable {T : List (Addr × Str)} {K : Frag} {M : Pl} {H : Hp} {st : DSt}
theorem itOf.src {d : D} {v : V} {I : DIt} (s : RS T K M st H) (r : RV K M H d v) (e : itOf st d = some I) : ∃ a, v = .ref a ∧ SrcAt K M H I a ∧ okS I st := by
  cases r with
  | tup n h q rs => cases e; exact ⟨_, rfl, .tup (fun M' H' l => .inl (.inr ⟨_, l.keep _ _ n h (fun ps z => by cases z)⟩)) rs rfl, .inl rfl⟩
  | tuk n h rs => cases e; exact ⟨_, rfl, .tup (fun M' H' l => .inl (.inl (l.keep _ _ n h (fun ps z => by cases z)))) rs rfl, .inl rfl⟩
  | lst n h rs => cases e; exact ⟨_, rfl, .lst (fun M' H' l => .inl (Rd.later l n (.inl h))) rs rfl, .inl rfl⟩
  | scr n h rs => cases e; exact ⟨_, rfl, .lst (fun M' H' l => .inl (Rd.later l n h)) rs rfl, .inl rfl⟩
  | lsk h rs => cases e; exact ⟨_, rfl, .lst (fun M' H' l => h H') rs rfl, .inl rfl⟩
  | ref h =>
    obtain ⟨o, e1, ro⟩ := s.atM h
    unfold itOf at e
    simp only [e1] at e
    cases o with
    | lst xs => cases e; exact ⟨_, rfl, .ref h rfl, .inr ⟨_, _, rfl, e1⟩⟩
    | dK _ => cases e
    | dT _ => cases e
  | _ => cases e
theorem SrcAt.rd {I : DIt} {a : Addr} (h : SrcAt K M H I a) {M' : Pl} {H' : Hp} {st' : DSt} (l : Later M H M' H') (s : RS T K M' st' H') (ok : okS I st') :
    ∃ xs, RVs K M' H' I.items xs ∧ (SqL K H' a xs ∨ SqT K H' a xs) := by
  cases h with
  | lst h r e => exact ⟨_, r.later l, .inl (h M' H' l)⟩
  | tup h r e => exact ⟨_, r.later l, .inr (h M' H' l)⟩
  | ref h e =>
    rcases ok with z | ⟨n', ys, z, q⟩
    · rw [e] at z; cases z
    · rw [e] at z
      cases z
      obtain ⟨xs, e1, e2⟩ := s.obj _ a _ (l.get _ _ h) q
      exact ⟨xs, e2, .inl (.inl (.inl e1))⟩
end
end DL
namespace DL
open PySem PySem.Spec PyProof.Rows L2 LamX PySem.W SL
section
variable {T : List (Addr × Str)} {K : Frag} {M : Pl} {H : Hp} {st : DSt} {I : DIt} {a : Addr}
def IsL (T : List (Addr × Str)) (K : Frag) (M : Pl) (H : Hp) (I : DIt) (a : Addr) : Prop := ∀ M' H' st', Later M H M' H' → RS T K M' st' H' → okS I st' → ∃ xs, RVs K M' H' I.items xs ∧ SqL K H' a xs
def IsT (T : List (Addr × Str)) (K : Frag) (M : Pl) (H : Hp) (I : DIt) (a : Addr) : Prop := ∀ M' H' st', Later M H M' H' → RS T K M' st' H' → okS I st' → ∃ xs, RVs K M' H' I.items xs ∧ SqT K H' a xs
theorem SrcAt.lt (h : SrcAt K M H I a) : IsL T K M H I a ∨ IsT T K M H I a := by
  cases h with
  | lst h r e => exact .inl fun M' H' st' l s ok => ⟨_, r.later l, h M' H' l⟩
  | tup h r e => exact .inr fun M' H' st' l s ok => ⟨_, r.later l, h M' H' l⟩
  | ref h e =>
    refine .inl fun M' H' st' l s ok => ?_
    rcases ok with z | ⟨n', ys, z, q⟩
    · rw [e] at z; cases z
    · rw [e] at z
      cases z
      obtain ⟨xs, e1, e2⟩ := s.obj _ a _ (l.get _ _ h) q
      exact ⟨xs, e2, .inl (.inl e1)⟩
theorem IsL.it (h : IsL T K M H I a) : ItOk T K M H (Itl K a) I := by
  refine ⟨fun M' H' st' l s ok i d e => ?_, fun M' H' st' l s ok => ?_⟩
  · obtain ⟨xs, r, q⟩ := h M' H' st' l s ok
    obtain ⟨v, e1, rv⟩ := r.get e
    refine ⟨⟨xs, v, q, e1⟩, fun x H'' y => ?_⟩
    obtain ⟨rfl, y⟩ := y
    have z := y xs q
    rw [e1] at z
    cases z
    exact ⟨Grow.refl _ _, s, rv⟩
  · obtain ⟨xs, r, q⟩ := h M' H' st' l s ok
    exact ⟨xs, q, by rw [r.length]; exact Nat.le_refl _⟩
theorem IsT.it (h : IsT T K M H I a) : ItOk T K M H (Itt K a) I := by
  refine ⟨fun M' H' st' l s ok i d e => ?_, fun M' H' st' l s ok => ?_⟩
  · obtain ⟨xs, r, q⟩ := h M' H' st' l s ok
    obtain ⟨v, e1, rv⟩ := r.get e
    refine ⟨⟨xs, v, q, e1⟩, fun x H'' y => ?_⟩
    obtain ⟨rfl, y⟩ := y
    have z := y xs q
    rw [e1] at z
    cases z
    exact ⟨Grow.refl _ _, s, rv⟩
  · obtain ⟨xs, r, q⟩ := h M' H' st' l s ok
    exact ⟨xs, q, by rw [r.length]; exact Nat.le_refl _⟩
end
theorem Later.refl (M : Pl) (H : Hp) : Later M H M H := (Grow.refl M H).later
section
variable {T : List (Addr × Str)} {X : Cx} {tg e : Expr} {f fa fb : DTE} {pos p : Pos}
theorem di_seq (he : DE T X e f) : DI T X tg e (wSeq f) := PI.imp (pi_seq he) fun σ H R ⟨M, r, st, R', s, re, h, k⟩ => ⟨M, r, st, _, s, re, h, fun M1 H1 st1 d v g1 s1 r1 q => by
  obtain ⟨I, e, q⟩ := onO.of q
  obtain ⟨a, rfl, src, ok⟩ := itOf.src s1 r1 e
  rcases src.lt (T := T) with l | l
  · obtain ⟨xs, _, sq⟩ := l M1 H1 st1 (Later.refl _ _) s1 ok
    exact ⟨a, rfl, .inl ⟨⟨xs, sq⟩, k M1 H1 st1 _ I g1 s1 q l.it⟩⟩
  · obtain ⟨xs, _, sq⟩ := l M1 H1 st1 (Later.refl _ _) s1 ok
    exact ⟨a, rfl, .inr ⟨⟨xs, sq⟩, k M1 H1 st1 _ I g1 s1 q l.it⟩⟩⟩
def rgD (lo : Int) (n : Nat) : List D := (List.range n).map fun i => D.int (lo + (i : Nat))
theorem rgD_get {lo : Int} {n i : Nat} {d : D} (h : (rgD lo n)[i]? = some d) : i < n ∧ d = .int (lo + (i : Nat)) := by
  unfold rgD at h
  rw [List.getElem?_map] at h
  cases q : (List.range n)[i]? with
  | none => rw [q] at h; cases h
  | some j =>
    rw [q] at h
    obtain ⟨l, e⟩ := List.getElem?_eq_some_iff.mp q
    rw [List.getElem_range] at e
    rw [List.length_range] at l
    subst e
    cases h
    exact ⟨l, rfl⟩
theorem rgD_length (lo : Int) (n : Nat) : (rgD lo n).length = n := by unfold rgD; rw [List.length_map, List.length_range]
theorem itok_range {K : Frag} {M : Pl} {H : Hp} {lo : Int} {n : Nat} : ItOk T K M H (Itr lo n) ⟨rgD lo n, none⟩ := by
  refine ⟨fun M' H' st' l s ok i d e => ?_, fun M' H' st' l s ok => ?_⟩
  · obtain ⟨lt, rfl⟩ := rgD_get e
    refine ⟨lt, fun x H'' y => ?_⟩
    obtain ⟨rfl, rfl⟩ := y
    exact ⟨Grow.refl _ _, s, .int _⟩
  · show n ≤ (rgD lo n).length
    rw [rgD_length]
    exact Nat.le_refl _
def wRng1 (fs : DTA) : DTI := fun r st R => fs r st fun ds st1 => on1 ds fun x => onI x fun j => (-(2 ^ 62) ≤ j ∧ j < 2 ^ 62) ∧ R ⟨rgD 0 j.toNat, none⟩ st1
def wRng2 (fs : DTA) : DTI := fun r st R => fs r st fun ds st1 => on2 ds fun x y => onI x fun i => onI y fun j => (-(2 ^ 62) ≤ i ∧ i < 2 ^ 62 ∧ -(2 ^ 62) ≤ j ∧ j < 2 ^ 62) ∧ R ⟨rgD i (j - i).toNat, none⟩ st1
theorem di_range1 {a : Expr} {fs : DTA} (hg : Gl X "range") (hm : X.mg "range" = none) (ha : DA T X [a] fs) (hs : starEach [a] X.env = [(false, eval a X.env)] := by rfl) : DI T X tg (.Call (.Name "range" p) [a] [] pos) (wRng1 fs) :=
  PI.imp (pi_range1 hg hm ha hs) fun σ H R ⟨M, r, st, R', s, re, h, k⟩ => ⟨M, r, st, _, s, re, h, fun M1 H1 st1 ds vs g1 s1 r1 q => by
    obtain ⟨x, rfl, q⟩ := on1.of q
    obtain ⟨j, rfl, b, q⟩ := onI.of q
    obtain ⟨v, rfl, rv⟩ := r1.one
    cases rv
    exact ⟨j, rfl, b.1, b.2, k M1 H1 st1 _ _ g1 s1 q itok_range⟩⟩
end
mutual
def clo (n : Nat) : D → Bool
  | .tup ds => clos n ds
  | .tuk ds => clos n ds
  | .lst ds => clos n ds
  | .scr ds => clos n ds
  | .ref k => decide (k < n)
  | _ => true
def clos (n : Nat) : List D → Bool
  | [] => true
  | d :: ds => clo n d && clos n ds
end
def cloO (n : Nat) : O → Bool
  | .lst ds => clos n ds
  | .dK kvs => clos n (kvs.map (·.2))
  | .dT kvs => clos n (kvs.map (·.2))
def cloR (n : Nat) (r : DEnv) : Prop := ∀ (i : Nat) (d : D), r[i]? = some (some d) → clo n d = true
def cloS (st0 : DSt) (n : Nat) (st : DSt) : Prop := ∀ (i : Nat) (o : O), i < n → st[i]? = some o → st0[i]? = some o ∨ cloO n o = true
def Less (r r' : DEnv) : Prop := r.length = r'.length ∧ ∀ (i : Nat) (d : D), r[i]? = some (some d) → r'[i]? = some (some d)
theorem Less.refl (r : DEnv) : Less r r := ⟨rfl, fun _ _ h => h⟩
def Pl.cut (M : Pl) (n : Nat) : Pl := ⟨M.h, M.m.take (M.h + n)⟩
section
variable {T : List (Addr × Str)} {K : Frag} {M : Pl} {H : Hp} {st : DSt}
theorem cut_at {n k : Nat} {a : Addr} (h : M.at_ k = some a) (lt : k < n) : (M.cut n).at_ k = some a := by
  unfold Pl.at_ Pl.cut
  show (M.m.take (M.h + n))[M.h + k]? = some a
  rw [List.getElem?_take, if_pos (by omega)]
  exact h
theorem cut_notin {n : Nat} {a : Addr} (h : a ∉ M.m) : a ∉ (M.cut n).m := fun z => h (List.mem_of_mem_take z)
mutual
theorem RV.cut {n : Nat} : ∀ {d : D} {v : V}, RV K M H d v → clo n d = true → RV K (M.cut n) H d v
  | _, _, .non, _ => .non
  | _, _, .bl b, _ => .bl b
  | _, _, .int i, _ => .int i
  | _, _, .str x, _ => .str x
  | _, _, .tup nn h e r, c => .tup (cut_notin nn) h e (r.cut (by simpa [clo] using c))
  | _, _, .tuk nn h r, c => .tuk (cut_notin nn) h (r.cut (by simpa [clo] using c))
  | _, _, .lst nn h r, c => .lst (cut_notin nn) h (r.cut (by simpa [clo] using c))
  | _, _, .scr nn h r, c => .scr (cut_notin nn) h (r.cut (by simpa [clo] using c))
  | _, _, .lsk h r, c => .lsk h (r.cut (by simpa [clo] using c))
  | _, _, .ref h, c => .ref (cut_at h (by simpa [clo] using c))
theorem RVs.cut {n : Nat} : ∀ {d : List D} {v : List V}, RVs K M H d v → clos n d = true → RVs K (M.cut n) H d v
  | _, _, .nil, _ => .nil
  | _, _, .cons h t, c => by
    simp only [clos, Bool.and_eq_true] at c
    exact .cons (h.cut c.1) (t.cut c.2)
end
theorem RO.cut {n : Nat} {o : O} {a : Addr} (h : RO K M H o a) (c : cloO n o = true) : RO K (M.cut n) H o a := by
  cases o with
  | lst ds => obtain ⟨xs, h1, h2⟩ := h; exact ⟨xs, h1, h2.cut c⟩
  | dK kvs => obtain ⟨ys, h1, h2, h3⟩ := h; exact ⟨ys, h1, h2, h3.cut c⟩
  | dT kvs => obtain ⟨ys, h1, h2, h3⟩ := h; exact ⟨ys, h1, h2, h3.cut c⟩
mutual
theorem clo_mono {n m : Nat} (l : n ≤ m) : ∀ {d : D}, clo n d = true → clo m d = true
  | .non, _ => by simp [clo]
  | .bl _, _ => by simp [clo]
  | .int _, _ => by simp [clo]
  | .str _, _ => by simp [clo]
  | .tup ds, h => by simp only [clo] at h ⊢; exact clos_mono l h
  | .tuk ds, h => by simp only [clo] at h ⊢; exact clos_mono l h
  | .lst ds, h => by simp only [clo] at h ⊢; exact clos_mono l h
  | .scr ds, h => by simp only [clo] at h ⊢; exact clos_mono l h
  | .ref k, h => by
    simp only [clo, decide_eq_true_eq] at h ⊢
    omega
theorem clos_mono {n m : Nat} (l : n ≤ m) : ∀ {d : List D}, clos n d = true → clos m d = true
  | [], _ => by simp [clos]
  | d :: ds, h => by
    simp only [clos, Bool.and_eq_true] at h ⊢
    exact ⟨clo_mono l h.1, clos_mono l h.2⟩
end
theorem cloO_mono {n m : Nat} (l : n ≤ m) {o : O} (h : cloO n o = true) : cloO m o = true := by
  cases o <;> exact clos_mono l h
mutual
theorem RV.clo {n : Nat} (len : M.m.length = M.h + n) : ∀ {d : D} {v : V}, RV K M H d v → DL.clo n d = true
  | _, _, .non => by simp [DL.clo]
  | _, _, .bl b => by simp [DL.clo]
  | _, _, .int i => by simp [DL.clo]
  | _, _, .str x => by simp [DL.clo]
  | _, _, .tup nn h e r => by simp only [DL.clo]; exact RVs.clo len r
  | _, _, .tuk nn h r => by simp only [DL.clo]; exact RVs.clo len r
  | _, _, .lst nn h r => by simp only [DL.clo]; exact RVs.clo len r
  | _, _, .scr nn h r => by simp only [DL.clo]; exact RVs.clo len r
  | _, _, .lsk h r => by simp only [DL.clo]; exact RVs.clo len r
  | _, _, .ref h => by
    have := (List.getElem?_eq_some_iff.mp h).1
    simp only [DL.clo, decide_eq_true_eq]
    omega
theorem RVs.clo {n : Nat} (len : M.m.length = M.h + n) : ∀ {d : List D} {v : List V}, RVs K M H d v → DL.clos n d = true
  | _, _, .nil => by simp [DL.clos]
  | _, _, .cons h t => by
    simp only [DL.clos, Bool.and_eq_true]
    exact ⟨RV.clo len h, RVs.clo len t⟩
end
theorem RS.clo (s : RS T K M st H) {i : Nat} {o : O} (e : st[i]? = some o) : cloO st.length o = true := by
  obtain ⟨a, _, ro⟩ := s.addr e
  cases o with
  | lst ds => obtain ⟨xs, h1, h2⟩ := ro; exact h2.clo s.len
  | dK kvs => obtain ⟨ys, h1, h2, h3⟩ := ro; exact h3.clo s.len
  | dT kvs => obtain ⟨ys, h1, h2, h3⟩ := ro; exact h3.clo s.len
theorem cloS.all {M0 : Pl} {H0 : Hp} {st0 : DSt} {n : Nat} (h : cloS st0 n st) (s0 : RS T K M0 st0 H0) (l : st0.length ≤ n) : ∀ (i : Nat) (o : O), i < n → st[i]? = some o → cloO n o = true := fun i o lt e => by
  rcases h i o lt e with q | q
  · exact cloO_mono l (s0.clo q)
  · exact q
theorem RS.cut {n : Nat} (s : RS T K M st H) (l : n ≤ st.length) (c : ∀ (i : Nat) (o : O), i < n → st[i]? = some o → cloO n o = true) : RS T K (M.cut n) (st.take n) H := by
  refine ⟨?_, List.Nodup.sublist (List.take_sublist _ _) s.nd, fun k a o e1 e2 => ?_, s.tabs, fun a ha => s.hid a ?_⟩
  · show (M.m.take (M.h + n)).length = M.h + (st.take n).length
    rw [List.length_take, List.length_take, s.len]
    omega
  · have lt : k < n := by
      have := (List.getElem?_eq_some_iff.mp e2).1
      rw [List.length_take] at this
      omega
    rw [List.getElem?_take, if_pos lt] at e2
    have e1' : (M.m.take (M.h + n))[M.h + k]? = some a := e1
    rw [List.getElem?_take, if_pos (by omega)] at e1'
    exact (s.obj k a o e1' e2).cut (c k o lt e2)
  · have ha' : a ∈ (M.m.take (M.h + n)).take M.h := ha
    rw [List.take_take, Nat.min_eq_left (by omega)] at ha'
    exact ha'
theorem RE.cut {n : Nat} {r r' : DEnv} {σ : L2.St} (re : RE K M H r σ) (l : Less r' r) (c : cloR n r') : RE K (M.cut n) H r' σ :=
  ⟨l.1.trans re.len, fun i d e => by
    obtain ⟨v, e1, e2⟩ := re.at_ i d (l.2 i d e)
    exact ⟨v, e1, e2.cut (c i d e)⟩⟩
theorem Grow.cut {M0 : Pl} {H0 : Hp} {st0 : DSt} {n : Nat} (g : Grow M0 H0 M H) (s0 : RS T K M0 st0 H0) (l : st0.length ≤ n) : Grow M0 H0 (M.cut n) H := by
  refine ⟨?_, g.keep, g.there, g.hid⟩
  obtain ⟨m, rfl, f⟩ := g.more
  refine ⟨m.take (n - st0.length), ?_, fun a ha => f a (List.mem_of_mem_take ha)⟩
  unfold Pl.cut Pl.app
  show Pl.mk M0.h ((M0.m ++ m).take (M0.h + n)) = _
  rw [List.take_append, List.take_of_length_le (by rw [s0.len]; omega), s0.len, show M0.h + n - (M0.h + st0.length) = n - st0.length by omega]
end
def Wk (b : DSt) (P : DEnv → DSt → Prop) : DEnv → DSt → Prop := fun r st => P r st ∨ ∃ r' n, b.length ≤ n ∧ n ≤ st.length ∧ Less r' r ∧ cloR n r' ∧ cloS b n st ∧ P r' (st.take n)
theorem Wk.sound {T : List (Addr × Str)} {K : Frag} {M M0 : Pl} {H H0 : Hp} {st st0 : DSt} {r : DEnv} {σ : L2.St} {P : DEnv → DSt → Prop} (h : Wk st0 P r st) (s0 : RS T K M0 st0 H0) (g : Grow M0 H0 M H) (s : RS T K M st H) (re : RE K M H r σ) :
    ∃ M' r' st', Grow M0 H0 M' H ∧ RS T K M' st' H ∧ RE K M' H r' σ ∧ P r' st' := by
  rcases h with h | ⟨r', n, h1, h2, h3, h4, h5, h6⟩
  · exact ⟨M, r, st, g, s, re, h⟩
  · exact ⟨M.cut n, r', st.take n, g.cut s0 h1, s.cut h2 (h5.all s0 h1), re.cut h3 h4, h6⟩
def forL (I : DIt) (g : DTG) (F : DTS) (E : DEnds) (b : DSt) : List D → DEnv → DSt → Prop
  | [], r, st => okI I st (E.nx r st)
  | d :: ds, r, st => okI I st (g d r st fun r1 st1 => F { nx := Wk b (forL I g F E b ds), rt := E.rt, bk := E.nx, ct := Wk b (forL I g F E b ds) } r1 st1)
def sFor (f : DTI) (g : DTG) (F : DTS) : DTS := fun E r st => f r st fun I st1 => forL I g F E st1 I.items r st1
section
variable {T : List (Addr × Str)} {X : Cx} {tg iter : Expr} {f : DTI} {g : DTG} {F : DTS} {pos : Pos} {vs : List Nat}
theorem ds_for {body : List Stmt} (hp : PassesOwn (model X.prog X.w) X.A X.env X.xe) (hc : X.calm = true) (hi : DI T X tg iter f) (hg : DG T X vs tg g) (hb : DSs T X body F) (hs : ∀ x, foldedSetIterable iter X.env x = pure x := by intro _; rfl) :
    DSt1 T X (.For tg iter body [] pos) (sFor f g F) :=
  PS.imp (ps_for hp hc hi hg hb hs) fun E σ H ⟨M, r, st, E', s, re, h, k⟩ => ⟨M, r, st, _, s, re, h, fun M1 H1 st1 J I g1 s1 q it => by
    refine ⟨fun i m σ' H' => ∃ M' r' st', Grow M1 H1 M' H' ∧ RS T X.K M' st' H' ∧ RE X.K M' H' r' σ' ∧ i ≤ I.items.length ∧ m = I.items.length - i ∧ forL I g F E' st1 (I.items.drop i) r' st', ⟨I.items.length, M1, r, st1, Grow.refl _ _, s1, re.grow g1, Nat.zero_le _, rfl, q⟩, fun i m σ' H' w => ?_⟩
    obtain ⟨M', r', st', gr, s', re', le, rfl, fl⟩ := w
    cases e : I.items.drop i with
    | nil =>
      rw [e] at fl
      obtain ⟨ok, q⟩ := okI.of fl
      have ei : i = I.items.length := by
        have := List.drop_eq_nil_iff.mp e
        omega
      refine .inl ⟨?_, k.nx M' H' σ' r' st' (g1.trans gr) s' re' q⟩
      rw [ei]
      exact it.stop M' H' st' gr.later s' ok
    | cons d ds =>
      rw [e] at fl
      obtain ⟨ok, q⟩ := okI.of fl
      have at_ : I.items[i]? = some d := by
        have z : (I.items.drop i)[0]? = some d := by rw [e]; rfl
        rw [List.getElem?_drop, Nat.add_zero] at z
        exact z
      have lt : i < I.items.length := (List.getElem?_eq_some_iff.mp at_).1
      have ds_ : I.items.drop (i + 1) = ds := by
        have z : (I.items.drop i).drop 1 = ds := by rw [e]; rfl
        rw [List.drop_drop] at z
        exact z
      obtain ⟨go, yl⟩ := it.go M' H' st' gr.later s' ok i d at_
      refine .inr ⟨go, fun σ2 H2 => ∃ M2 r2 st2, Grow M1 H1 M2 H2 ∧ RS T X.K M2 st2 H2 ∧ RE X.K M2 H2 r2 σ2 ∧ forL I g F E' st1 ds r2 st2, fun σ2 H2 ⟨M2, r2, st2, g2, s2, re2, q2⟩ => ⟨I.items.length - (i + 1), by omega, M2, r2, st2, g2, s2, re2, lt, rfl, by rw [ds_]; exact q2⟩, fun x H2 y => ?_⟩
      obtain ⟨g2, s2, r2⟩ := yl x H2 y
      refine ⟨M', r', st', d, _, s2, re'.grow g2, r2, q, fun M3 H3 σ3 r3 st3 g3 s3 re3 _ q3 => ?_⟩
      refine ⟨M3, r3, st3, _, s3, re3, q3, ?_⟩
      have g13 : Grow M1 H1 M3 H3 := (gr.trans g2).trans g3
      refine ⟨fun M4 H4 σ4 r4 st4 g4 s4 re4 q4 => ?_, (k.rt.grow g1).grow g13, (k.nx.grow g1).grow g13, fun M4 H4 σ4 r4 st4 g4 s4 re4 q4 => ?_⟩
      · exact (Wk.sound q4 s1 (g13.trans g4) s4 re4)
      · exact (Wk.sound q4 s1 (g13.trans g4) s4 re4)⟩
def whileL (t : DTT) (F : DTS) (E : DEnds) (b : DSt) : Nat → DEnv → DSt → Prop
  | 0, _, _ => False
  | n + 1, r, st => t r st fun c st1 => if c = true then F { nx := Wk b (whileL t F E b n), rt := E.rt, bk := E.nx, ct := Wk b (whileL t F E b n) } r st1 else E.nx r st1
def sWhile (t : DTT) (F : DTS) : DTS := fun E r st => ∃ n, whileL t F E st n r st
theorem ds_while {c : Expr} {body : List Stmt} {t : DTT} (hp : PassesOwn (model X.prog X.w) X.A X.env X.xe) (hc : DT T X c t) (hb : DSs T X body F) : DSt1 T X (.While c body [] pos) (sWhile t F) :=
  PS.imp (ps_while hp hc hb) fun E σ H ⟨M1, r, st1, E', s1, re, ⟨n, h⟩, k⟩ => by
    refine ⟨fun m σ' H' => ∃ M' r' st', Grow M1 H M' H' ∧ RS T X.K M' st' H' ∧ RE X.K M' H' r' σ' ∧ whileL t F E' st1 m r' st', ⟨n, M1, r, st1, Grow.refl _ _, s1, re, h⟩, fun m σ' H' w => ?_⟩
    obtain ⟨M', r', st', gr, s', re', wl⟩ := w
    cases m with
    | zero => exact wl.elim
    | succ m =>
      refine ⟨M', r', st', _, s', re', wl, fun M2 H2 st2 c g2 s2 q => ?_⟩
      cases c with
      | true =>
        rw [if_pos rfl] at q ⊢
        refine ⟨fun σ3 H3 => ∃ M3 r3 st3, Grow M1 H M3 H3 ∧ RS T X.K M3 st3 H3 ∧ RE X.K M3 H3 r3 σ3 ∧ whileL t F E' st1 m r3 st3, fun σ3 H3 z => ⟨m, Nat.lt_succ_self m, z⟩, M2, r', st2, _, s2, re'.grow g2, q, ?_⟩
        have g12 := gr.trans g2
        exact ⟨fun M4 H4 σ4 r4 st4 g4 s4 re4 q4 => Wk.sound q4 s1 (g12.trans g4) s4 re4, k.rt.grow g12, k.nx.grow g12, fun M4 H4 σ4 r4 st4 g4 s4 re4 q4 => Wk.sound q4 s1 (g12.trans g4) s4 re4⟩
      | false =>
        rw [if_neg (by decide)] at q ⊢
        exact k.nx M2 H2 σ' r' st2 (gr.trans g2) s2 (re'.grow g2) q
end
end DL
namespace DL
open PySem PySem.Spec PyProof.Rows L2 LamX PySem.W SL
def wipeD (r : DEnv) : List Nat → DEnv
  | [] => r
  | v :: vs => (wipeD r vs).set v none
theorem RE.forget {K : Frag} {M : Pl} {H : Hp} {r : DEnv} {σ : L2.St} (h : RE K M H r σ) (i : Nat) (x : Option V) : RE K M H (r.set i none) (σ.set i x) := by
  refine ⟨by rw [List.length_set, List.length_set]; exact h.len, fun j c e => ?_⟩
  by_cases q : j = i
  · subst q
    have lt : j < r.length := by
      have := (List.getElem?_eq_some_iff.mp e).1
      rw [List.length_set] at this
      exact this
    rw [List.getElem?_set_self lt] at e
    cases e
  · rw [List.getElem?_set_ne (fun z => q z.symm)] at e ⊢
    exact h.at_ j c e
theorem RE.wipe {K : Frag} {M : Pl} {H : Hp} {r : DEnv} {σ : L2.St} (h : RE K M H r σ) : ∀ vs : List Nat, RE K M H (wipeD r vs) (L2.wipe σ vs)
  | [] => h
  | v :: vs => (RE.wipe h vs).forget v none
theorem RE.later {K : Frag} {M M' : Pl} {H H' : Hp} {r : DEnv} {σ : L2.St} (h : RE K M H r σ) (g : Later M H M' H') : RE K M' H' r σ :=
  ⟨h.len, fun i d e => by obtain ⟨v, e1, e2⟩ := h.at_ i d e; exact ⟨v, e1, e2.later g⟩⟩
def dtYes : DTT := fun _ st Q => Q true st
def compL (I : DIt) (g : DTG) (tt : DTT) (te : DTE) (r : DEnv) (Q : List D → DSt → Prop) : List D → List D → DSt → Prop
  | [], acc, st => okI I st (Q acc st)
  | d :: ds, acc, st => okI I st (g d r st fun r2 st2 => tt r2 st2 fun b st3 => if b = true then te r2 st3 fun y st4 => compL I g tt te r Q ds (acc ++ [y]) st4 else compL I g tt te r Q ds acc st3)
def dLcG (f : DTI) (g : DTG) (tt : DTT) (te : DTE) (vs : List Nat) (fin : (D → DSt → Prop) → List D → DSt → Prop) : DTE := fun r st Q => f r st fun I st1 => I.items.length ≤ sizeLine ∧ compL I g tt te (wipeD r vs) (fin Q) I.items [] st1
def finT (Q : D → DSt → Prop) (acc : List D) (st : DSt) : Prop := Q (.lst acc) st
def finN (Q : D → DSt → Prop) (acc : List D) (st : DSt) : Prop := Q (.ref st.length) (st ++ [.lst acc])
def FinOk (T : List (Addr × Str)) (K : Frag) (fin : (D → DSt → Prop) → List D → DSt → Prop) : Prop := ∀ (M M' : Pl) (H H' : Hp) (st' : DSt) (p : Addr) (acc : List D) (xs : List V) (Q' : DK) (Q : VK), H p = none → Grow M H M' H' → RS T K (M'.hide p) st' H' →
  H' p = some (.lst xs) → RVs K (M'.hide p) H' acc xs → Kn T K M H Q' Q → fin Q' acc st' → Q (.ref p) H'
theorem finT_ok {T : List (Addr × Str)} {K : Frag} : FinOk T K finT := by
  intro M M' H H' st' p acc xs Q' Q np g s' hp r k q
  exact k M' H' st' (.lst acc) (.ref p) g s'.unhide (.lst (List.nodup_cons.mp s'.nd).1 hp (r.later later_unhide)) q
theorem Grow.step {T : List (Addr × Str)} {K : Frag} {M M1 M2 : Pl} {H H1 H2 : Hp} {st : DSt} {p : Addr} {o : HO} (g : Grow M H M1 H1) (s : RS T K M st H) (np : H p = none) (g2 : Grow (M1.hide p) H1 (M2.hide p) H2) : Grow M H M2 (upd H2 p o) := by
  refine ⟨?_, fun a u n e t => ?_, fun a t => ?_, fun a ha => ?_⟩
  · obtain ⟨m1, rfl, f1⟩ := g.more
    obtain ⟨m2, e, f2⟩ := g2.more
    rw [Pl.hide_app] at e
    have e := Pl.hide_inj e
    subst e
    refine ⟨m1 ++ m2, by unfold Pl.app; simp, fun a ha => ?_⟩
    rcases List.mem_append.mp ha with z | z
    · exact f1 a z
    · exact fun q => f2 a z (g.there a q)
  · have ne : a ≠ p := ne_of_none e np
    rw [upd_ne ne]
    refine g2.keep a u (fun z => ?_) (g.keep a u n e t) t
    rcases List.mem_cons.mp z with z | z
    · exact ne z
    · exact g.notin n ⟨u, e, t⟩ z
  · exact (g2.there a (g.there a t)).upd (t.ne np)
  · obtain ⟨xs, e⟩ := s.hid a ha
    have ne : a ≠ p := ne_of_none e np
    rw [upd_ne ne]
    refine (g2.hid a ?_).trans (g.hid a ha)
    show a ∈ (p :: M1.m).take (M1.h + 1)
    rw [List.take_succ_cons]
    obtain ⟨m1, rfl, f1⟩ := g.more
    exact List.mem_cons_of_mem _ (take_app ha)
theorem upd_self {H : Hp} {p : Addr} {o : HO} (h : H p = some o) : upd H p o = H := by
  funext a
  by_cases z : a = p
  · rw [z, upd_same, h]
  · rw [upd_ne z]
theorem Grow.lateHide {M M' : Pl} {H H' : Hp} {p : Addr} (g : Grow M H M' H') (np : H p = none) : Later M H (M'.hide p) H' := by
  refine ⟨g.keep, fun n a h => by rw [Pl.hide_at]; exact g.get h, fun a n t z => ?_⟩
  rcases List.mem_cons.mp z with z | z
  · exact t.ne np z
  · exact g.notin n t z
theorem hidden_at {M : Pl} {p : Addr} : p ∈ (M.hide p).m.take (M.hide p).h := by
  show p ∈ (p :: M.m).take (M.h + 1)
  rw [List.take_succ_cons]
  exact List.mem_cons_self
theorem grow_hide {M M2 : Pl} {H H2 : Hp} {p : Addr} (g : Grow (M.hide p) H M2 H2) : ∃ N : Pl, M2 = N.hide p := by
  obtain ⟨m, rfl, _⟩ := g.more
  exact ⟨M.app m, Pl.hide_app M p m⟩
theorem RS.push {T : List (Addr × Str)} {K : Frag} {M : Pl} {H : Hp} {st : DSt} {p : Addr} {xs ys : List V} (s : RS T K (M.hide p) st H) (hp : H p = some (.lst xs)) : RS T K (M.hide p) st (upd H p (.lst ys)) ∧ Later (M.hide p) H (M.hide p) (upd H p (.lst ys)) := by
  have l : Later (M.hide p) H (M.hide p) (upd H p (.lst ys)) := ⟨fun a o n e _ => by
    rw [upd_ne fun z => n (by rw [z]; exact List.mem_cons_self)]
    exact e, fun _ _ h => h, fun _ h _ => h⟩
  refine ⟨⟨s.len, s.nd, fun n a o e1 e2 => ?_, tabs_upd s.tabs fun b u hb z => ?_, fun a ha => ?_⟩, l⟩
  · refine (s.obj n a o e1 e2).later l (upd_ne fun z => ?_)
    rw [Pl.hide_at] at e1
    exact (List.nodup_cons.mp s.nd).1 (by rw [← z]; exact Pl.at_mem e1)
  · exact (s.tabNe List.mem_cons_self hb z).symm
  · by_cases z : a = p
    · rw [z]; exact ⟨ys, upd_same⟩
    · rw [upd_ne z]; exact s.hid a ha
theorem wipe_wipe (σ : L2.St) (vs : List Nat) : L2.wipe (L2.wipe σ vs) vs = L2.wipe σ vs := by
  have no : ∀ (ws : List Nat) (τ : L2.St) (i : Nat), (L2.wipe τ ws).set i none = L2.wipe (τ.set i none) ws := by
    intro ws
    induction ws with
    | nil => intro τ i; rfl
    | cons w ws ih =>
      intro τ i
      show ((L2.wipe τ ws).set w none).set i none = (L2.wipe (τ.set i none) ws).set w none
      rw [← ih τ i]
      by_cases e : w = i
      · rw [e]
      · rw [List.set_comm _ _ e]
  induction vs generalizing σ with
  | nil => rfl
  | cons v vs ih =>
    show (L2.wipe ((L2.wipe σ vs).set v none) vs).set v none = (L2.wipe σ vs).set v none
    rw [← no vs (L2.wipe σ vs) v, ih, List.set_set]
theorem lift_lc {T : List (Addr × Str)} {K : Frag} {f : DTI} {g : DTG} {tt : DTT} {te : DTE} {vs : List Nat} {fin : (D → DSt → Prop) → List D → DSt → Prop} (fo : FinOk T K fin) {σ : L2.St} {H : Hp} {Q : VK} (h : lift T K (dLcG f g tt te vs fin) σ H Q) :
    tLc (liftI T K f) (liftG T K vs g) (liftT T K tt) (lift T K te) vs σ H Q := by
  obtain ⟨M, r, st, Q', s, re, h, k⟩ := h
  refine ⟨M, r, st, _, s, re, h, fun M1 H1 st1 J I g1 s1 q it p np => ?_⟩
  obtain ⟨few, q⟩ := q
  refine ⟨fun i m H' => ∃ (M' : Pl) (acc : List D) (xs : List V) (st' : DSt), Grow M1 H1 M' H' ∧ RS T K (M'.hide p) st' H' ∧ H' p = some (.lst xs) ∧ RVs K (M'.hide p) H' acc xs ∧ acc.length ≤ i ∧ i ≤ I.items.length ∧ m = I.items.length - i ∧
      compL I g tt te (wipeD r vs) (fin Q') (I.items.drop i) acc st', ⟨I.items.length, M1, [], [], st1, Grow.new s1.hid np, s1.hide np, upd_same, .nil, Nat.le_refl _, Nat.zero_le _, rfl, q⟩, fun i m H' w => ?_⟩
  obtain ⟨M', acc, xs, st', gr, s', hp, rs, la, le, rfl, cl⟩ := w
  have lat := gr.lateHide np
  have reN : RE K (M'.hide p) H' (wipeD r vs) (L2.wipe σ vs) := ((re.grow g1).wipe vs).later lat
  cases e : I.items.drop i with
  | nil =>
    rw [e] at cl
    obtain ⟨ok, q⟩ := okI.of cl
    have ei : i = I.items.length := by
      have := List.drop_eq_nil_iff.mp e
      omega
    exact .inl ⟨by rw [ei]; exact it.stop _ H' st' lat s' ok, fo M1 M' H1 H' st' p acc xs Q' Q np gr s' hp rs (k.grow g1) q⟩
  | cons d ds =>
    rw [e] at cl
    obtain ⟨ok, q⟩ := okI.of cl
    have at_ : I.items[i]? = some d := by
      have z : (I.items.drop i)[0]? = some d := by rw [e]; rfl
      rw [List.getElem?_drop, Nat.add_zero] at z
      exact z
    have lt : i < I.items.length := (List.getElem?_eq_some_iff.mp at_).1
    have ds_ : I.items.drop (i + 1) = ds := by
      have z : (I.items.drop i).drop 1 = ds := by rw [e]; rfl
      rw [List.drop_drop] at z
      exact z
    obtain ⟨go, yl⟩ := it.go _ H' st' lat s' ok i d at_
    refine .inr ⟨go, fun H2 => ∃ (M2 : Pl) (acc2 : List D) (xs2 : List V) (st2 : DSt), Grow M1 H1 M2 H2 ∧ RS T K (M2.hide p) st2 H2 ∧ H2 p = some (.lst xs2) ∧ RVs K (M2.hide p) H2 acc2 xs2 ∧ acc2.length ≤ i + 1 ∧ compL I g tt te (wipeD r vs) (fin Q') ds acc2 st2,
      fun H2 ⟨M2, acc2, xs2, st2, a1, a2, a3, a4, a5, a6⟩ => ⟨I.items.length - (i + 1), by omega, M2, acc2, xs2, st2, a1, a2, a3, a4, a5, lt, rfl, by rw [ds_]; exact a6⟩, fun x H2 y => ?_⟩
    obtain ⟨g2, s2, r2⟩ := yl x H2 y
    refine ⟨_, wipeD r vs, st', d, _, s2, reN.grow g2, r2, q, fun M3 H3 σ3 r3 st3 g3 s3 re3 w3 q3 => ⟨w3.trans (wipe_wipe σ vs), M3, r3, st3, _, s3, re3, q3, fun M4 H4 st4 b g4 s4 q4 => ?_⟩⟩
    have g24 := (g2.trans g3).trans g4
    cases b with
    | true =>
      rw [if_pos rfl] at q4
      refine iteT ?_
      refine ⟨M4, r3, st4, _, s4, re3.grow g4, q4, fun M5 H5 st5 z vz g5 s5 r5 q5 => ?_⟩
      have g25 := g24.trans g5
      obtain ⟨N5, rfl⟩ := grow_hide g25
      have hp5 : H5 p = some (.lst xs) := (g25.hid p hidden_at).trans hp
      obtain ⟨s6, l6⟩ := s5.push (ys := xs ++ [vz]) hp5
      refine ⟨xs, hp5, ?_, N5, acc ++ [z], xs ++ [vz], st5, gr.step s1 np g25, s6, upd_same, ?_, by rw [List.length_append]; simp; omega, q5⟩
      · rw [← rs.length]; omega
      · exact ((rs.grow g25).later l6).append (.cons (r5.later l6) .nil)
    | false =>
      rw [if_neg (by decide)] at q4
      refine iteF ?_
      obtain ⟨N4, rfl⟩ := grow_hide g24
      have hp4 : H4 p = some (.lst xs) := (g24.hid p hidden_at).trans hp
      refine ⟨N4, acc, xs, st4, ?_, s4, hp4, rs.grow g24, by omega, q4⟩
      have z := gr.step (o := .lst xs) s1 np g24
      rw [upd_self hp4] at z
      exact z
theorem PTs.imp {X : Cx} {e : List Expr} {t t' : TT} (h : PTs X e t) (i : ∀ σ H Q, t' σ H Q → t σ H Q) : PTs X e t' := ⟨fun pins s σ H Q I z => h.run pins s σ H Q I (i σ H Q z)⟩
abbrev DTs (T : List (Addr × Str)) (X : Cx) (e : List Expr) (f : DTT) : Prop := PTs X e (liftT T X.K f)
section
variable {T : List (Addr × Str)} {X : Cx}
theorem dts_nil : DTs T X [] dtYes := PTs.imp pts_nil fun σ H Q ⟨M, r, st, Q', s, re, h, k⟩ => k M H st true (Grow.refl M H) s h
theorem dts_one {c : Expr} {t : DTT} (h : DT T X c t) : DTs T X [c] t := pts_one h
variable {elt tg iter : Expr} {ifs : List Expr} {scope : Scope} {own : List (Str × Nat)} {pos : Pos} {f : DTI} {g : DTG} {tt : DTT} {te : DTE}
theorem de_lcG {fin : (D → DSt → Prop) → List D → DSt → Prop} (fo : FinOk T X.K fin) (hc : X.calm = true) (hN : X.N.Nodup) (hi : DI T X tg iter f) (ok : BlkOk X.N X.env.scope scope own)
    (hg : ∀ (s : Shared) (H : Hp) (C : Addr) (cl : List (Str × Addr)) (fp : List Addr), DG T (X.blk s H scope (compEnvC scope cl C X.env) fp) (own.map (·.2)) tg g) (ht : ∀ (s : Shared) (H : Hp) (C : Addr) (cl : List (Str × Addr)) (fp : List Addr), DTs T (X.blk s H scope (compEnvC scope cl C X.env) fp) ifs tt)
    (he : ∀ (s : Shared) (H : Hp) (C : Addr) (cl : List (Str × Addr)) (fp : List Addr), DE T (X.blk s H scope (compEnvC scope cl C X.env) fp) elt te) (hs : ∀ x, foldedSetIterable iter X.env x = pure x := by intro _; rfl) :
    DE T X (.ListComp elt [⟨tg, iter, ifs, 0⟩] scope pos) (dLcG f g tt te (own.map (·.2)) fin) :=
  PE.imp (pe_lc hc hN hi ok hg ht he hs) fun _ _ _ h => lift_lc fo h
theorem ds_setLcG {i : Nat} {y : Str} {py spos : Pos} {fin : (D → DSt → Prop) → List D → DSt → Prop} (fo : FinOk T X.K fin) (hc : X.calm = true) (hN : X.N.Nodup) (hy : X.N[i]? = some y) (hyl : X.env.scope.names.lookup y = some .local)
    (hsw : swapsWith (.ListComp elt [⟨tg, iter, ifs, 0⟩] scope pos) (some (.Name y py)) spos.line X.env = pure true) (hi : DI T X tg iter f) (ok : BlkOk X.N X.env.scope scope own)
    (hg : ∀ (s : Shared) (H : Hp) (C : Addr) (cl : List (Str × Addr)) (fp : List Addr), DG T (X.blk s H scope (compEnvC scope cl C X.env) fp) (own.map (·.2)) tg g) (ht : ∀ (s : Shared) (H : Hp) (C : Addr) (cl : List (Str × Addr)) (fp : List Addr), DTs T (X.blk s H scope (compEnvC scope cl C X.env) fp) ifs tt)
    (he : ∀ (s : Shared) (H : Hp) (C : Addr) (cl : List (Str × Addr)) (fp : List Addr), DE T (X.blk s H scope (compEnvC scope cl C X.env) fp) elt te) (hs : ∀ x, foldedSetIterable iter X.env x = pure x := by intro _; rfl) :
    DSt1 T X (.Assign [.Name y py] (.ListComp elt [⟨tg, iter, ifs, 0⟩] scope pos) spos) (sSet i (dLcG f g tt te (own.map (·.2)) fin)) :=
  PS.imp (ps_setLc hc hN hy hyl hsw hi ok hg ht he hs) fun E σ H ⟨M, r, st, E', s, re, h, k⟩ =>
    lift_lc fo ⟨M, r, st, _, s, re, h, fun M1 H1 st1 d v g1 s1 r1 q => k.nx M1 H1 _ _ st1 g1 s1 ((re.grow g1).set i r1) q⟩
end
end DL
namespace DL
open PySem PySem.Spec PyProof.Rows L2 LamX PySem.W SL
def spD (T : List (Addr × Str)) (K : Frag) (n : Nat) (g : DRs) : Sp := fun vs H Q _ => vs.length = n ∧ ∃ M st ds Q', RS T K M st H ∧ RVs K M H ds vs ∧ g ds st Q' ∧ Kn T K M H Q' Q
structure FnD (P : Program) (w : World) (K : Frag) (mg : Str → Option Value) (base : Heap) (T : List (Addr × Str)) (k : Nat) (f : Addr) (fd : FuncData) (ps : List Str) (g : DRs) : Prop where
  fn : FnG P w K mg base k f fd ps (spD T K ps.length g)
  ar : ∀ ds st Q, g ds st Q → ds.length = ps.length
mutual
/-- .. its own lists become lists that nobody writes to, at any depth -/
inductive Fz (st : DSt) (n : Nat) : D → D → Prop
  | same {d : D} : clo n d = true → Fz st n d d
  | tup {ds es : List D} : Fzs st n ds es → Fz st n (.tup ds) (.tup es)
  | tuk {ds es : List D} : Fzs st n ds es → Fz st n (.tuk ds) (.tuk es)
  | lst {ds es : List D} : Fzs st n ds es → Fz st n (.lst ds) (.lst es)
  | own {k : Nat} {ds es : List D} : n ≤ k → st[k]? = some (.lst ds) → Fzs st n ds es → Fz st n (.ref k) (.lst es)
inductive Fzs (st : DSt) (n : Nat) : List D → List D → Prop
  | nil : Fzs st n [] []
  | cons {d e : D} {ds es : List D} : Fz st n d e → Fzs st n ds es → Fzs st n (d :: ds) (e :: es)
end
theorem Fzs.same {st : DSt} {n : Nat} : ∀ {ds : List D}, clos n ds = true → Fzs st n ds ds
  | [], _ => .nil
  | d :: ds, h => by
    simp only [clos, Bool.and_eq_true] at h
    exact .cons (.same h.1) (Fzs.same h.2)
theorem notin_cut {T : List (Addr × Str)} {K : Frag} {M : Pl} {H : Hp} {st : DSt} {n m : Nat} {a : Addr} (s : RS T K M st H) (hr : M.at_ n = some a) (le : m ≤ n) : a ∉ (M.cut m).m := by
  intro z
  obtain ⟨i, hi⟩ := List.mem_iff_getElem?.mp z
  have hi' : (M.m.take (M.h + m))[i]? = _ := hi
  rw [List.getElem?_take] at hi'
  split at hi'
  · obtain ⟨l1, q1⟩ := List.getElem?_eq_some_iff.mp hi'
    obtain ⟨l2, q2⟩ := List.getElem?_eq_some_iff.mp hr
    have := (List.getElem_inj s.nd).mp (q1.trans q2.symm)
    omega
  · cases hi'
section
variable {T : List (Addr × Str)} {K : Frag} {M : Pl} {H : Hp} {st : DSt}
mutual
theorem Fz.rv (s : RS T K M st H) {n : Nat} : ∀ {d e : D} {v : V}, Fz st n d e → RV K M H d v → RV K (M.cut n) H e v
  | _, _, _, .same c, r => r.cut c
  | _, _, _, .tup f, .tup a b c r => .tup (cut_notin a) b c (f.rvs s r)
  | _, _, _, .tuk f, .tuk a b r => .tuk (cut_notin a) b (f.rvs s r)
  | _, _, _, .lst f, .lst a b r => .lst (cut_notin a) b (f.rvs s r)
  | _, _, _, .own (ds := ds) le e f, .ref hr => by
    obtain ⟨xs, e1, e2⟩ := s.obj _ _ _ hr e
    exact .lst (notin_cut s hr le) e1 (f.rvs s e2)
theorem Fzs.rvs (s : RS T K M st H) {n : Nat} : ∀ {d e : List D} {v : List V}, Fzs st n d e → RVs K M H d v → RVs K (M.cut n) H e v
  | _, _, _, .nil, .nil => .nil
  | _, _, _, .cons f fs, .cons r rs => .cons (f.rv s r) (fs.rvs s rs)
end
end
def Rt (b : DSt) (Q : DK) : DK := fun d st => Q d st ∨ (∃ n, b.length ≤ n ∧ n ≤ st.length ∧ clo n d = true ∧ cloS b n st ∧ Q d (st.take n)) ∨
  (∃ n d', b.length ≤ n ∧ n ≤ st.length ∧ Fz st n d d' ∧ cloS b n st ∧ Q d' (st.take n))
theorem Rt.sound {T : List (Addr × Str)} {K : Frag} {M M0 : Pl} {H H0 : Hp} {st st0 : DSt} {d : D} {v : V} {Q' : DK} {Q : VK} (h : Rt st0 Q' d st) (s0 : RS T K M0 st0 H0) (k : Kn T K M0 H0 Q' Q) (g : Grow M0 H0 M H) (s : RS T K M st H) (r : RV K M H d v) : Q v H := by
  rcases h with h | ⟨n, h1, h2, h3, h4, h5⟩ | ⟨n, d', h1, h2, h3, h4, h5⟩
  · exact k M H st d v g s r h
  · exact k (M.cut n) H (st.take n) d v (g.cut s0 h1) (s.cut h2 (h4.all s0 h1)) (r.cut h3) h5
  · exact k (M.cut n) H (st.take n) d' v (g.cut s0 h1) (s.cut h2 (h4.all s0 h1)) (h3.rv s r) h5
def startD (n : Nat) (ds : List D) : DEnv := ds.map some ++ List.replicate (n - ds.length) none
theorem RE.start {K : Frag} {M : Pl} {H : Hp} {ds : List D} {vs : List V} (r : RVs K M H ds vs) (N : List Str) : RE K M H (startD N.length ds) (L2.start N vs) := by
  unfold startD L2.start
  refine ⟨by simp [r.length], fun i d e => ?_⟩
  by_cases lt : i < ds.length
  · rw [List.getElem?_append_left (by rw [List.length_map]; exact lt), List.getElem?_map] at e
    rw [List.getElem?_append_left (by rw [List.length_map, ← r.length]; exact lt), List.getElem?_map]
    cases q : ds[i]? with
    | none => rw [q] at e; cases e
    | some y =>
      rw [q] at e
      cases e
      obtain ⟨v, e1, e2⟩ := r.get q
      exact ⟨v, by rw [e1]; rfl, e2⟩
  · rw [List.getElem?_append_right (by rw [List.length_map]; omega), List.getElem?_replicate] at e
    split at e <;> cases e
section
variable {P : Program} {w : World} {K : Frag} {mg : Str → Option Value} {base : Heap} {T : List (Addr × Str)}
theorem fnD_mk {x qual : Str} {st : Stmt} {f : Addr} {fd : FuncData} {N ps : List Str} {k : Nat} {g : DRs} {F' : DTS} (F : Fun K x qual st f fd) (sc : FnScope N ps (defScope st)) (ar : ∀ ds st Q, g ds st Q → ds.length = ps.length)
    (body : ∀ (cdv : Value) (A : Around) (outer : List Env) (s : Shared) (H : Hp) (E : XK), A.guards = some [] → Room k (A.deeper (envOfC qual (defScope st) s.heap.objs.size f cdv)) → DSs T (cxOf CX0 P w K mg base N qual (defScope st) f cdv A outer s H E).nox (defBody st) F')
    (sem : ∀ ds st Q, g ds st Q → F' { nx := fun _ st' => Rt st Q .non st', rt := Rt st Q } (startD N.length ds) st) : FnD P w K mg base T (k + 1) f fd ps g := by
  refine ⟨fnG_mk F sc (fun vs H Q E h => h.1) (fun cdv A outer s H vs Q E gd room h => ⟨_, body cdv A outer s H E gd room, ?_⟩), ar⟩
  obtain ⟨_, M, st', ds, Q', rs, rv, hg, kn⟩ := h
  refine ⟨M, startD N.length ds, st', _, rs, RE.start rv N, sem ds st' Q' hg, ?_⟩
  exact ⟨fun M1 H1 σ1 r1 st1 g1 s1 re1 q => Rt.sound q rs kn g1 s1 .non, fun M1 H1 st1 d v g1 s1 r1 q => Rt.sound q rs kn g1 s1 r1, fun _ _ _ _ _ _ _ _ q => q.elim, fun _ _ _ _ _ _ _ _ q => q.elim⟩
theorem FnD.mono {j k : Nat} {f : Addr} {fd : FuncData} {ps : List Str} {g : DRs} (F : FnD P w K mg base T j f fd ps g) (h : j ≤ k) : FnD P w K mg base T k f fd ps g :=
  ⟨⟨F.fn.size, fun A outer s H args us vs Q E gd room => F.fn.go A outer s H args us vs Q E gd (room.mono h)⟩, F.ar⟩
theorem FnD.imp {k : Nat} {f : Addr} {fd : FuncData} {ps : List Str} {g g' : DRs} (F : FnD P w K mg base T k f fd ps g) (h : ∀ ds st Q, g' ds st Q → g ds st Q) : FnD P w K mg base T k f fd ps g' :=
  ⟨⟨fun vs H Q E q => q.1, fun A outer s H args us vs Q E gd room e0 bd rel q => by
    obtain ⟨l, M, st, ds, Q', rs, rv, hg, kn⟩ := q
    exact F.fn.go A outer s H args us vs Q E gd room e0 bd rel ⟨l, M, st, ds, Q', rs, rv, h _ _ _ hg, kn⟩⟩, fun ds st Q q => F.ar ds st Q (h _ _ _ q)⟩
end
section
variable {T : List (Addr × Str)} {X : Cx} {a b : Expr} {fa fb : DTE} {pos : Pos}
theorem de_call {k : Nat} {f : Addr} {fd : FuncData} {ps : List Str} {g : DRs} {x : Str} {p : Pos} {e : Expr} {es : List Expr} {fs : DTA}
    (F : FnD X.prog X.w X.K X.mg X.base T k f fd ps g) (gd : X.A.guards = some []) (room : Room k X.A) (gl : Gl X x)
    (at_ : X.mg x = some (.ref f)) (keep : PySem.W.keepIn X.K (.ref f) = true) (bd : Binds X.K fd ps []) (args : DA T X (e :: es) fs)
    (h1 : (x == ("__debug__" : Str)) = false := by decide)
    (h2 : starEach (e :: es) X.env = (false, eval e X.env) :: starEach es X.env := by rfl)
    (h3 : (backTo pos (starEach es X.env)).any (·.1) = false := by rfl) :
    DE T X (.Call (.Name x p) (e :: es) [] pos) (dCB g fs) :=
  PE.imp (pe_callG F.fn gd room gl at_ keep bd args h1 h2 h3) fun σ H Q ⟨M, r, st, Q', s, re, h, k⟩ => ⟨M, r, st, _, s, re, h, fun M1 H1 st1 ds vs g1 s1 r1 q => by
    show spD T X.K ps.length g (vs ++ []) H1 Q E0
    rw [List.append_nil]
    exact ⟨by rw [← r1.length]; exact F.ar _ _ _ q, M1, st1, ds, Q', s1, r1, q, k.grow g1⟩⟩
def onL (st : DSt) (d : D) (k : Nat → List D → Prop) : Prop := match d with
  | .ref n => match st[n]? with | some (.lst xs) => k n xs | _ => False
  | _ => False
theorem onL.of {st : DSt} {d : D} {k : Nat → List D → Prop} (h : onL st d k) : ∃ n xs, d = .ref n ∧ st[n]? = some (.lst xs) ∧ k n xs := by
  cases d with
  | ref n =>
    unfold onL at h
    simp only at h
    split at h
    · rename_i xs e; exact ⟨n, xs, rfl, e, h⟩
    · exact h.elim
  | _ => exact h.elim
theorem onL.rd {T : List (Addr × Str)} {K : Frag} {M : Pl} {H : Hp} {st : DSt} {n : Nat} {xs : List D} {v : V} (s : RS T K M st H) (r : RV K M H (.ref n) v) (e : st[n]? = some (.lst xs)) : ∃ a ys, v = .ref a ∧ M.at_ n = some a ∧ H a = some (.lst ys) ∧ RVs K M H xs ys := by
  cases r with
  | ref hm =>
    obtain ⟨ys, e1, e2⟩ := s.obj n _ _ hm e
    exact ⟨_, ys, rfl, hm, e1, e2⟩
theorem Kn.setL {T : List (Addr × Str)} {K : Frag} {M : Pl} {H : Hp} {st : DSt} {Q' : DK} {Q : VK} {n : Nat} {a : Addr} {ds : List D} {ys : List V} {d : D} {v : V} (k : Kn T K M H Q' Q) (s : RS T K M st H) (hm : M.at_ n = some a) (r : RVs K M H ds ys) (rv : RV K M H d v) (q : Q' d (st.set n (.lst ds))) : Q v (upd H a (.lst ys)) := by
  have gw : Grow M H M (upd H a (.lst ys)) := Grow.write s.nd hm
  exact k M _ _ d v gw (s.write (u := .lst ds) hm ⟨ys, upd_same, r.grow gw⟩) (rv.grow gw) q
def MtD (T : List (Addr × Str)) (K : Frag) (r : V → List V → Hp → VK → Prop) (r' : D → List D → DSt → DK → Prop) : Prop := ∀ (M : Pl) (H : Hp) (st : DSt) (x : D) (ds : List D) (v : V) (vs : List V) (Q' : DK) (Q : VK), RS T K M st H → RV K M H x v → RVs K M H ds vs → r' x ds st Q' → Kn T K M H Q' Q → r v vs H Q
def LstD (st : DSt) (x : D) : Prop := match x with | .lst _ => True | .ref n => (match st[n]? with | some (.lst _) => True | _ => False) | _ => False
theorem LstD.ty {K : Frag} {M : Pl} {H : Hp} {st : DSt} {x : D} {v : V} (s : RS T K M st H) (r : RV K M H x v) (h : LstD st x) : tyV K "list" v H := by
  cases r with
  | lst n e rs => exact .inl ⟨rfl, _, .inl (.inl e)⟩
  | scr n e rs => exact h.elim
  | lsk e rs => exact h.elim
  | ref hm =>
    obtain ⟨o, e1, ro⟩ := s.atM hm
    unfold LstD at h
    simp only [e1] at h
    cases o with
    | lst xs => obtain ⟨ys, e2, _⟩ := ro; exact .inl ⟨rfl, ys, .inl (.inl e2)⟩
    | dK _ => exact h.elim
    | dT _ => exact h.elim
  | _ => exact h.elim
def dMtL (r' : D → List D → DSt → DK → Prop) (fo : DTE) (fs : DTA) : DTE := fun r st Q => fo r st fun x st1 => LstD st1 x ∧ fs r st1 fun ds st2 => r' x ds st2 Q
theorem de_bmL {o e : Expr} {es : List Expr} {name : Str} {apos cpos : Pos} {id : String} {r : V → List V → Hp → VK → Prop} {r' : D → List D → DSt → DK → Prop} {fo : DTE} {fs : DTA} (slot : Slot "list" name id) (hty : typeOf (.builtin id) = pure (.type "method_descriptor")) (hm : MtR X id r) (hd : MtD T X.K r r') (ho : DE T X o fo) (ha : DA T X (e :: es) fs)
    (h1 : attributeBase o name X.env (eval o X.env) = eval o X.env := by rfl)
    (h2 : ((backTo cpos (starEach (e :: es) X.env)).all (fun x => !x.1) && (backToKw cpos (keywordEach [] X.env)).all (fun x => x.1.isSome) && decide ((e :: es).length + ([] : List Keyword).length + (if ([] : List Keyword).isEmpty then 0 else 1) < 30)) = true := by rfl)
    (h3 : (apos.endLine == cpos.line) = true := by rfl) (h4 : starEach (e :: es) X.env = (false, eval e X.env) :: starEach es X.env := by rfl) (h5 : (backTo cpos (starEach es X.env)).any (·.1) = false := by rfl) :
    DE T X (.Call (.Attribute o name apos) (e :: es) [] cpos) (dMtL r' fo fs) :=
  PE.imp (pe_bm PySem.F.plainAttrs_list slot hty hm ho ha h1 h2 h3 h4 h5) fun σ H Q ⟨M, ρ, st, Q', s, re, h, k⟩ => ⟨M, ρ, st, _, s, re, h, fun M1 H1 st1 x v g1 s1 r1 q => ⟨q.1.ty s1 r1, M1, ρ, st1, _, s1, re.grow g1, q.2, fun M2 H2 st2 ds vs g2 s2 r2 q2 =>
    hd M2 H2 st2 x ds v vs Q' Q s2 (r1.grow g2) r2 q2 ((k.grow g1).grow g2)⟩⟩
def mAppend : D → List D → DSt → DK → Prop := fun x ds st Q => on1 ds fun y => onL st x fun n xs => xs.length < sizeLine ∧ Q .non (st.set n (.lst (xs ++ [y])))
theorem mtD_append {K : Frag} : MtD T K rAppend mAppend := by
  intro M H st x ds v vs Q' Q s rx rs h k
  obtain ⟨y, rfl, h⟩ := on1.of h
  obtain ⟨n, xs, rfl, e, lt, q⟩ := onL.of h
  obtain ⟨w, rfl, rw'⟩ := rs.one
  obtain ⟨a, ys, rfl, hm, e1, e2⟩ := onL.rd s rx e
  exact ⟨a, ys, w, rfl, rfl, e1, by rw [← e2.length]; exact lt, k.setL s hm (e2.append (.cons rw' .nil)) .non q⟩
def mPopAt : D → List D → DSt → DK → Prop := fun x ds st Q => on1 ds fun y => onI y fun i => onL st x fun n xs => (-(2 ^ 63) ≤ i ∧ i < 2 ^ 63) ∧ onO (seqIndex? i xs.length) fun k => onO xs[k]? fun d => Q d (st.set n (.lst (xs.eraseIdx k)))
theorem mtD_popAt {K : Frag} : MtD T K rPopAt mPopAt := by
  intro M H st x ds v vs Q' Q s rx rs h k
  obtain ⟨y, rfl, h⟩ := on1.of h
  obtain ⟨i, rfl, h⟩ := onI.of h
  obtain ⟨n, xs, rfl, e, lt, q⟩ := onL.of h
  obtain ⟨j, e3, q⟩ := onO.of q
  obtain ⟨d, e4, q⟩ := onO.of q
  obtain ⟨w, rfl, rw'⟩ := rs.one
  cases rw'
  obtain ⟨a, ys, rfl, hm, e1, e2⟩ := onL.rd s rx e
  obtain ⟨z, e5, rz⟩ := e2.get e4
  exact ⟨a, ys, i, j, z, rfl, rfl, e1, lt.1, lt.2, by rw [← e2.length]; exact e3, e5, k.setL s hm (e2.eraseIdx j) rz q⟩
def intsD : List D → Option (List Int)
  | [] => some []
  | .int b :: r => (intsD r).map (b :: ·)
  | _ => none
theorem intsD_of : ∀ {ds : List D} {bs : List Int}, intsD ds = some bs → ds = bs.map D.int
  | [], bs, h => by cases h; rfl
  | .int b :: r, bs, h => by
    unfold intsD at h
    cases q : intsD r with
    | none => rw [q] at h; cases h
    | some cs => rw [q] at h; cases h; rw [intsD_of q]; rfl
  | .non :: r, bs, h => by cases h
  | .bl _ :: r, bs, h => by cases h
  | .str _ :: r, bs, h => by cases h
  | .tup _ :: r, bs, h => by cases h
  | .tuk _ :: r, bs, h => by cases h
  | .lst _ :: r, bs, h => by cases h
  | .scr _ :: r, bs, h => by cases h
  | .ref _ :: r, bs, h => by cases h
theorem intsD_map {α : Type} (g : α → Int) : ∀ xs : List α, intsD (xs.map fun x => D.int (g x)) = some (xs.map g)
  | [] => rfl
  | x :: r => by rw [List.map_cons, List.map_cons]; unfold intsD; rw [intsD_map g r]; rfl
theorem intsD_ints (ns : List Int) : intsD (ns.map D.int) = some ns := by
  have z := intsD_map (fun i : Int => i) ns
  rw [List.map_id'] at z
  exact z
def ixOf (z : Int) : List Int → Option Nat
  | [] => none
  | x :: r => if x = z then some 0 else (ixOf z r).map (· + 1)
theorem ixOf_spec {z : Int} : ∀ {ns : List Int} {j : Nat}, ixOf z ns = some j → ns[j]? = some z ∧ ∀ m, m < j → ns[m]? ≠ some z
  | [], j, h => by cases h
  | x :: r, j, h => by
    unfold ixOf at h
    by_cases e : x = z
    · rw [if_pos e] at h
      cases h
      exact ⟨by rw [e]; rfl, fun m lt => absurd lt (Nat.not_lt_zero m)⟩
    · rw [if_neg e] at h
      cases q : ixOf z r with
      | none => rw [q] at h; cases h
      | some k =>
        rw [q] at h
        cases h
        obtain ⟨a, b⟩ := ixOf_spec q
        refine ⟨a, fun m lt => ?_⟩
        cases m with
        | zero => intro w; cases w; exact e rfl
        | succ m => exact fun w => b m (Nat.lt_of_succ_lt_succ lt) (by simpa using w)
theorem ixOf_mem {z : Int} : ∀ {ns : List Int}, z ∈ ns → ∃ j, ixOf z ns = some j
  | x :: r, h => by
    unfold ixOf
    by_cases e : x = z
    · rw [if_pos e]; exact ⟨0, rfl⟩
    · rw [if_neg e]
      obtain ⟨j, q⟩ := ixOf_mem (List.mem_of_ne_of_mem (fun w => e w.symm) h)
      exact ⟨j + 1, by rw [q]; rfl⟩
def IdxD (st : DSt) (x : D) : Prop := match x with
  | .tup _ => True
  | .lst _ => True
  | .ref n => (match st[n]? with | some (.lst _) => True | _ => False)
  | _ => False
def ixS (st : DSt) : D → Option (List D)
  | .tup xs => some xs
  | .lst xs => some xs
  | .ref n => match st[n]? with | some (.lst ds) => some ds | _ => none
  | _ => none
def mIndex : D → List D → DSt → DK → Prop := fun x ds st Q => on1 ds fun y => onI y fun z => onO (ixS st x) fun xs => onO (intsD xs) fun ns => onO (ixOf z ns) fun j => Q (.int (j : Nat)) st
def dIndex (fo : DTE) (fs : DTA) : DTE := fun r st Q => fo r st fun x st1 => IdxD st1 x ∧ fs r st1 fun ds st2 => mIndex x ds st2 Q
theorem eqV_int (a b : Int) : eqV (.int a) (.int b) = decide (a = b) := by
  by_cases h : a = b
  · subst h; simp [eqV]
  · simp [eqV, h]
theorem flatV_ints (ns : List Int) : (ns.map V.int).all flatV = true := by
  rw [List.all_eq_true]
  intro x hx
  obtain ⟨i, _, rfl⟩ := List.mem_map.mp hx
  rfl
theorem rIndex_ints {K : Frag} {H : Hp} {a : Addr} {ns : List Int} {z : Int} {j : Nat} {Q : VK} (hs : SqL K H a (ns.map V.int)) (e : ixOf z ns = some j) (q : Q (.int (j : Nat)) H) : rIndex K (.ref a) [.int z] H Q := by
  obtain ⟨a1, a2⟩ := ixOf_spec e
  refine ⟨a, _, .int z, j, .int z, rfl, rfl, hs, rfl, flatV_ints ns, by rw [List.getElem?_map, a1]; rfl, by rw [eqV_int]; exact decide_eq_true rfl, fun m z' lt hz => ?_, q⟩
  rw [List.getElem?_map] at hz
  obtain ⟨u, hu, rfl⟩ := Option.map_eq_some_iff.mp hz
  rw [eqV_int]
  exact decide_eq_false fun w => a2 m lt (by rw [hu, w])
def tIdx2 (K : Frag) (to : TE) (t : TA) : TE := fun σ H Q => to σ H fun x H1 => ((∃ p xs, x = .ref p ∧ FzT H1 p xs) ∧ t σ H1 fun vs H2 => rIndexT K x vs H2 Q) ∨ (tyV K "list" x H1 ∧ t σ H1 fun vs H2 => rIndex K x vs H2 Q)
theorem pe_idx2 {o e : Expr} {es : List Expr} {to : TE} {t : TA} {apos cpos : Pos} (ho : PE X o to) (ha : PA X (e :: es) t)
    (h1 : attributeBase o "index" X.env (eval o X.env) = eval o X.env := by rfl)
    (h2 : ((backTo cpos (starEach (e :: es) X.env)).all (fun x => !x.1) && (backToKw cpos (keywordEach [] X.env)).all (fun x => x.1.isSome) && decide ((e :: es).length + ([] : List Keyword).length + (if ([] : List Keyword).isEmpty then 0 else 1) < 30)) = true := by rfl)
    (h3 : (apos.endLine == cpos.line) = true := by rfl) (h4 : starEach (e :: es) X.env = (false, eval e X.env) :: starEach es X.env := by rfl) (h5 : (backTo cpos (starEach es X.env)).any (·.1) = false := by rfl) :
    PE X (.Call (.Attribute o "index" apos) (e :: es) [] cpos) (tIdx2 X.K to t) := by
  constructor
  intro pins s σ H Q I h
  refine wpAny_Call_method_late h1 h2 h3 rfl (thn (ho.run pins s σ H _ I h) ?_)
  rintro v s1 ⟨x, H1, I1, r1, (⟨⟨p, xs, rfl, ob, hp, dn⟩, q1⟩ | ⟨ty, q1⟩)⟩
  · obtain rfl : v = Value.ref p := r1
    obtain ⟨at_, _, its, _, ob2, at2, cl, _⟩ := I1.hok p _ hp
    rw [at_] at at2
    cases at2
    refine ⟨"tuple", _, PySem.F.plainAttrs_tuple, PySem.F.slot_tuple_index, PySem.F.type_tuple_index, ⟨ob, at_, cl⟩, fun a ea => ?_, ?_⟩
    · cases ea
      exact ⟨ob, at_, dn⟩
    · have run := ha.run cpos pins s1 σ H1 _ I1 q1
      rw [h4] at run ⊢
      refine Calls.callWith_builtin (by show (false || (backTo cpos (starEach es X.env)).any (·.1)) = false; rw [h5]; rfl) (Calls.evalArgs_plain ?_)
      refine thn run ?_
      rintro us s2 ⟨vs, H2, I2, r2, q2⟩
      exact mt_tup_indexI pins s2 σ H2 (.ref p) vs _ us Q I2 rfl r2 q2
  · obtain ⟨y1, y2⟩ := tyV_is I1 r1 ty
    refine ⟨"list", _, PySem.F.plainAttrs_list, PySem.F.slot_list_index, PySem.F.type_list_index, y1, y2, ?_⟩
    have run := ha.run cpos pins s1 σ H1 _ I1 q1
    rw [h4] at run ⊢
    refine Calls.callWith_builtin (by show (false || (backTo cpos (starEach es X.env)).any (·.1)) = false; rw [h5]; rfl) (Calls.evalArgs_plain ?_)
    refine thn run ?_
    rintro us s2 ⟨vs, H2, I2, r2, q2⟩
    exact mt_index pins s2 σ H2 x vs v us Q I2 r1 r2 q2
theorem de_index {o e : Expr} {es : List Expr} {apos cpos : Pos} {fo : DTE} {fs : DTA} (ho : DE T X o fo) (ha : DA T X (e :: es) fs)
    (h1 : attributeBase o "index" X.env (eval o X.env) = eval o X.env := by rfl)
    (h2 : ((backTo cpos (starEach (e :: es) X.env)).all (fun x => !x.1) && (backToKw cpos (keywordEach [] X.env)).all (fun x => x.1.isSome) && decide ((e :: es).length + ([] : List Keyword).length + (if ([] : List Keyword).isEmpty then 0 else 1) < 30)) = true := by rfl)
    (h3 : (apos.endLine == cpos.line) = true := by rfl) (h4 : starEach (e :: es) X.env = (false, eval e X.env) :: starEach es X.env := by rfl) (h5 : (backTo cpos (starEach es X.env)).any (·.1) = false := by rfl) :
    DE T X (.Call (.Attribute o "index" apos) (e :: es) [] cpos) (dIndex fo fs) :=
  PE.imp (pe_idx2 ho ha h1 h2 h3 h4 h5) fun σ H Q ⟨M, ρ, st, Q', s, re, h, k⟩ => ⟨M, ρ, st, _, s, re, h, fun M1 H1 st1 x v g1 s1 r1 q => by
    obtain ⟨qt, q⟩ := q
    cases x with
    | tup xs =>
      have r1' := r1
      cases r1 with
      | tup n e0 e3 rs =>
        refine .inl ⟨⟨_, _, rfl, _, e0, e3⟩, M1, ρ, st1, _, s1, re.grow g1, q, fun M2 H2 st2 ds vs g2 s2 r2 q2 => ?_⟩
        obtain ⟨y, rfl, q3⟩ := on1.of q2
        obtain ⟨z, rfl, q4⟩ := onI.of q3
        obtain ⟨xs', e0, q4⟩ := onO.of q4
        cases e0
        obtain ⟨ns, e1, q5⟩ := onO.of q4
        obtain ⟨j, e2, q6⟩ := onO.of q5
        obtain ⟨w, rfl, rw'⟩ := r2.one
        cases rw'
        have e1 := intsD_of e1
        subst e1
        have r3 := r1'.grow g2
        cases r3 with
        | tup n' e0' e3' rs' =>
          have zz := rs'.ints
          subst zz
          obtain ⟨a1, a2⟩ := ixOf_spec e2
          exact ⟨_, ns, z, j, rfl, rfl, .inl (.inr ⟨_, e0'⟩), a1, a2, ((k.grow g1).grow g2).here s2 (.int _) q6⟩
    | lst xs =>
      have r1' := r1
      cases r1 with
      | lst n e0 rs =>
        refine .inr ⟨.inl ⟨rfl, _, .inl (.inl e0)⟩, M1, ρ, st1, _, s1, re.grow g1, q, fun M2 H2 st2 ds vs g2 s2 r2 q2 => ?_⟩
        obtain ⟨y, rfl, q3⟩ := on1.of q2
        obtain ⟨z, rfl, q4⟩ := onI.of q3
        obtain ⟨xs', e0, q4⟩ := onO.of q4
        cases e0
        obtain ⟨ns, e1, q5⟩ := onO.of q4
        obtain ⟨j, e2, q6⟩ := onO.of q5
        obtain ⟨w, rfl, rw'⟩ := r2.one
        cases rw'
        have e1 := intsD_of e1
        subst e1
        have r3 := r1'.grow g2
        cases r3 with
        | lst n' e0' rs' =>
          have zz := rs'.ints
          subst zz
          exact rIndex_ints (.inl (.inl e0')) e2 (((k.grow g1).grow g2).here s2 (.int _) q6)
    | ref m =>
      have r1' := r1
      cases r1 with
      | ref hm =>
        obtain ⟨o1, eo, ro⟩ := s1.atM hm
        unfold IdxD at qt
        simp only [eo] at qt
        cases o1 with
        | dK _ => exact qt.elim
        | dT _ => exact qt.elim
        | lst zs =>
          obtain ⟨ys, hy, _⟩ := ro
          refine .inr ⟨.inl ⟨rfl, ys, .inl (.inl hy)⟩, M1, ρ, st1, _, s1, re.grow g1, q, fun M2 H2 st2 ds vs g2 s2 r2 q2 => ?_⟩
          obtain ⟨y, rfl, q3⟩ := on1.of q2
          obtain ⟨z, rfl, q4⟩ := onI.of q3
          obtain ⟨xs', e0, q4⟩ := onO.of q4
          obtain ⟨ns, e1, q5⟩ := onO.of q4
          obtain ⟨j, e2, q6⟩ := onO.of q5
          obtain ⟨w, rfl, rw'⟩ := r2.one
          cases rw'
          have e1 := intsD_of e1
          subst e1
          have r3 := r1'.grow g2
          cases r3 with
          | ref hm2 =>
            obtain ⟨o2, eo2, ro2⟩ := s2.atM hm2
            unfold ixS at e0
            simp only [eo2] at e0
            cases o2 with
            | dK _ => cases e0
            | dT _ => cases e0
            | lst us =>
              cases e0
              obtain ⟨ws, hw, rs'⟩ := ro2
              have zz := rs'.ints
              subst zz
              exact rIndex_ints (.inl (.inl hw)) e2 (((k.grow g1).grow g2).here s2 (.int _) q6)
    | _ => exact qt.elim⟩
end
end DL
namespace DL
open PySem PySem.Spec PyProof.Rows L2 LamX PySem.W SL
theorem mulOne (l : Addr) (its : Array Value) (n : Nat) (dd : Option Addr) (sl : Array (Option Value)) (u : Tok) :
    Meets (Builtin.«tuple.__mul__» ⟨[.ref l, .int 1 u], []⟩) (fun _ R s => s.heap.get? l = some ⟨.type "tuple", dd, .seq its n, sl⟩ ∧ R (.ok (.ret (.ref l))) s) :=
  .of_wp fun prog w A R s h => by
    obtain ⟨hp, g, d, tk, os⟩ := s
    obtain ⟨hl, q⟩ := h
    have f1 := AutoSeq1.idx_int
    wp_walk using wpAny_loadPart' hl
    exact ⟨_, rfl, q⟩
def rRepF (K : Frag) : R2 := fun x y H Q => ∃ (l : Addr) (k : Nat) (xs : List V), x = .ref l ∧ y = .int k ∧ SqT K H l xs ∧ xs ≠ [] ∧ 1 ≤ k ∧ k ≤ 1000 ∧ xs.length ≤ 1000 ∧
  (k = 1 → Q (.ref l) H) ∧ (2 ≤ k → ∀ (p : Addr) (ob : Obj), H p = none → ob.dict = none → Q (.ref p) (upd H p (.frz ob (.tup (List.replicate k xs).flatten))))
theorem op_repF {X : Cx} : OpR X (binaryOp .Mult) (rRepF X.K) := by
  intro pins s σ H x y v u Q I rx ry h
  obtain ⟨l, k, xs, rfl, rfl, hT, hne, k1, k2, hz, q1, q2⟩ := h
  cases rx
  obtain ⟨t, rfl⟩ := ry
  obtain ⟨its, r, ⟨⟨cls, dd, data, sl⟩, ho, hc, n, hd⟩, hs⟩ := I.tuple hT
  simp only at hc hd
  subst hc hd
  have le : its.length = xs.length := r.length.symm
  by_cases e : k = 1
  · subst e
    exact wpAny_binaryOp_repeat_ref (T := "tuple") (U := "int") (by decide)
      ⟨_, ho, rfl⟩ (fun s' => typeIs_int s' _ t) noFill_tuple_mul F.fills_int_mul
      F.slot_int_rmul repeat_tuple F.slot_int_index.lookup
      (call_meets F.slot_int_rmul (typeIs_int s _ t) F.entry_int_rmul
        (F.args_int_rmul_2 _ _) (int_rmul_tuple _ t l its.toArray n dd sl)
        ⟨ho, rfl, ⟨_, ho, rfl⟩, call_meets F.slot_tuple_mul ⟨_, ho, rfl⟩
          F.entry_tuple_mul (F.args_tuple_mul_2 _ _) (mulOne l its.toArray n dd sl t) ⟨ho, .ref l, H, I, rfl, q1 rfl⟩⟩)
  · have two : 2 ≤ k := by omega
    have ne : its.toArray.isEmpty = false := by
      cases its with
      | nil => exact absurd (List.eq_nil_of_length_eq_zero le.symm) hne
      | cons _ _ => rfl
    have sz : its.toArray.size = xs.length := by rw [List.size_toArray, le]
    have nat : xs.length * k ≤ 1000000 := Nat.le_trans (Nat.mul_le_mul hz k2) (by decide)
    have big : ((its.toArray.size : Nat) : Int) * (k : Int) ≤ 1000000 := by
      rw [sz]
      rw [← Int.natCast_mul]
      exact Int.ofNat_le.mpr nat
    have fl : (List.replicate k its).flatten.length ≤ sizeLine := by
      rw [lm_len_rep_flat, le, sizeLine_eq, Nat.mul_comm]
      omega
    have z0 : (decide ((k : Int) < -(2 ^ 63)) || decide ((k : Int) ≥ 2 ^ 63)) = false := by
      rw [Bool.or_eq_false_iff]
      exact ⟨decide_eq_false (by omega), decide_eq_false (by omega)⟩
    have z1 : (its.toArray.isEmpty || (k : Int) == 1) = false := by
      rw [ne]
      exact beq_eq_false_iff_ne.mpr (by omega)
    have z2 : (decide ((k : Int) ≤ 0) || its.toArray.isEmpty) = false := by
      rw [ne, decide_eq_false (by omega)]
      rfl
    have z4 : Builtin.Tuple.tupleTooMany (((its.toArray.size : Nat) : Int) * (k : Int)) = false := by
      unfold Builtin.Tuple.tupleTooMany
      refine decide_eq_false ?_
      rw [sizeLine_eq]
      omega
    refine wpAny_binaryOp_repeat_ref (T := "tuple") (U := "int") (by decide)
      ⟨_, ho, rfl⟩ (fun s' => typeIs_int s' _ t) noFill_tuple_mul F.fills_int_mul
      F.slot_int_rmul repeat_tuple F.slot_int_index.lookup
      (call_meets F.slot_int_rmul (typeIs_int s _ t) F.entry_int_rmul
        (F.args_int_rmul_2 _ _) (int_rmul_tuple _ t l its.toArray n dd sl)
        ⟨ho, rfl, ⟨_, ho, rfl⟩, call_meets F.slot_tuple_mul ⟨_, ho, rfl⟩
          F.entry_tuple_mul (F.args_tuple_mul_2 _ _) (tuple_mulW l its.toArray n dd sl _ t z0 z1 z2 (by omega) z4 (by rw [size_rep, List.size_toArray]; exact fl)) ⟨ho, ?_⟩⟩)
    rw [size_rep]
    refine ⟨.ref s.heap.objs.size, _, I.laid (t' := s.toks) (o := .frz { cls := .type "tuple", data := .seq (List.replicate (k : Int).toNat its).flatten.toArray } (.tup (List.replicate k xs).flatten))
      (fun b ob q => Heap.get?_push_of_some _ q) (Nat.le_refl _) ?_, rfl, q2 two _ _ (I.hok.fresh (Nat.le_refl _)) rfl⟩
    exact ⟨Heap.get?_push_size _ rfl, by rw [lm_len_rep_flat, ← le, ← lm_len_rep_flat]; exact fl, _, r.rep k, IsTup.new _ _⟩
end DL
namespace DL
open PySem PySem.Spec PyProof.Rows L2 LamX PySem.W SL
def lstS (st : DSt) : D → Option (List D)
  | .lst ds => some ds
  | .ref n => match st[n]? with | some (.lst ds) => some ds | _ => none
  | _ => none
section
variable {T : List (Addr × Str)} {X : Cx} {K : Frag} {M : Pl} {H : Hp} {st : DSt}
theorem lstS.rd {d : D} {v : V} {ds : List D} (s : RS T K M st H) (r : RV K M H d v) (e : lstS st d = some ds) : ∃ a xs, v = .ref a ∧ H a = some (.lst xs) ∧ RVs K M H ds xs := by
  cases r with
  | lst n h rs => cases e; exact ⟨_, _, rfl, h, rs⟩
  | ref h =>
    obtain ⟨o, e1, ro⟩ := s.atM h
    unfold lstS at e
    simp only [e1] at e
    cases o with
    | lst xs => cases e; obtain ⟨ys, q, rs⟩ := ro; exact ⟨_, ys, rfl, q, rs⟩
    | dK _ => cases e
    | dT _ => cases e
  | _ => cases e
theorem fin_new' {fin : DK → List D → DSt → Prop} (fo : fin = finT ∨ fin = finN) {ds : List D} {xs : List V} {Q' : DK} {Q : VK} {q : Addr} (k : Kn T K M H Q' Q) (s : RS T K M st H) (r : RVs K M H ds xs) (nq : H q = none) (h : fin Q' ds st) : Q (.ref q) (upd H q (.lst xs)) := by
  rcases fo with rfl | rfl
  · exact k.lst s r nq h
  · exact k.own s r nq h
def mExtend : D → List D → DSt → DK → Prop := fun x ds st Q => on1 ds fun y => onL st x fun n xs => onO (lstS st y) fun ys => xs.length + ys.length ≤ sizeLine ∧ Q .non (st.set n (.lst (xs ++ ys)))
theorem mtD_extend : MtD T K rExtend mExtend := by
  intro M H st x ds v vs Q' Q s r rs h k
  obtain ⟨y, rfl, h⟩ := on1.of h
  obtain ⟨n, xs, rfl, e, h⟩ := onL.of h
  obtain ⟨ys, e2, le, q⟩ := onO.of h
  obtain ⟨w, rfl, rw'⟩ := rs.one
  obtain ⟨a, us, rfl, hm, ha, ru⟩ := onL.rd s r e
  obtain ⟨b, zs, rfl, hb, rz⟩ := lstS.rd s rw' e2
  exact ⟨a, b, us, zs, rfl, rfl, ha, hb, by rw [← ru.length, ← rz.length]; exact le, k.setL s hm (ru.append rz) .non q⟩
theorem RVs.dropLast {ds : List D} {vs : List V} (r : RVs K M H ds vs) : RVs K M H ds.dropLast vs.dropLast := by
  rw [List.dropLast_eq_take, List.dropLast_eq_take, ← r.length]
  exact r.take _
end
end DL
namespace DL
open PySem PySem.Spec PyProof.Rows L2 LamX PySem.W SL
section
variable {T : List (Addr × Str)} {X : Cx} {a b c e : Expr} {es : List Expr} {fa fb fc f : DTE} {fs : DTA} {pos p : Pos} {K : Frag}
def dAddG (fin : DK → List D → DSt → Prop) : DR2 := fun x y st Q => match x, y with
  | .int i, .int j => Q (.int (i + j)) st
  | .tup xs, .tup ys => xs.length + ys.length ≤ sizeLine ∧ Q (.tup (xs ++ ys)) st
  | .str i, .str j => i.length + j.length ≤ sizeLine ∧ Q (.str (i ++ j)) st
  | x, y => onO (lstS st x) fun xs => onO (lstS st y) fun ys => xs.length + ys.length ≤ sizeLine ∧ fin Q (xs ++ ys) st
abbrev dAdd : DR2 := dAddG finT
def rAdd (K : Frag) : R2 := fun x y H Q => ((rI0 fun i j => .int (i + j)) x y H Q ∨ rCatF K x y H Q) ∨ ((∃ i j, x = .str i ∧ y = .str j ∧ i.length + j.length ≤ sizeLine ∧ Q (.str (i ++ j)) H) ∨ rCat x y H Q)
theorem op_addA : OpR X (binaryOp .Add) (rAdd X.K) := OpR.or (OpR.or op_add op_catF) (OpR.or op_add_str op_cat)
theorem opD_add {fin : DK → List D → DSt → Prop} (fo : fin = finT ∨ fin = finN) : OpD T K (rAdd K) (dAddG fin) := by
  intro M H st x y vx vy Q' Q s rx ry h k
  unfold dAddG at h
  split at h
  · cases rx
    cases ry
    exact .inl (.inl ⟨_, _, rfl, rfl, k.here s (.int _) h⟩)
  · obtain ⟨le, q⟩ := h
    have rx' := rx
    have ry' := ry
    cases rx with
    | tup n1 e1 d1 r1 =>
      cases ry with
      | tup n2 e2 d2 r2 =>
        refine .inl (.inr ⟨_, _, _, _, rfl, rfl, .inl (.inr ⟨_, e1⟩), .inl (.inr ⟨_, e2⟩), by rw [← r1.length, ← r2.length]; exact le, fun z => ?_, fun z1 z => ?_, fun z1 z2 p ob np hd => k.tup s (r1.append r2) np hd q⟩)
        · have zz := r1.nil_iff.mpr z
          subst zz
          exact k.here s ry' q
        · have zz := r2.nil_iff.mpr z
          subst zz
          rw [List.append_nil] at q
          exact k.here s rx' q
  · cases rx
    cases ry
    exact .inr (.inl ⟨_, _, rfl, rfl, h.1, k.here s (.str _) h.2⟩)
  · obtain ⟨xs, e1, h⟩ := onO.of h
    obtain ⟨ys, e2, le, q⟩ := onO.of h
    obtain ⟨a, us, rfl, ha, ru⟩ := lstS.rd s rx e1
    obtain ⟨b, ws, rfl, hb, rw'⟩ := lstS.rd s ry e2
    exact .inr (.inr ⟨a, b, us, ws, rfl, rfl, ha, hb, by rw [← ru.length, ← rw'.length]; exact le, fun p np => fin_new' fo k s (ru.append rw') np q⟩)
theorem de_add (ha : DE T X a fa) (hb : DE T X b fb) : DE T X (.BinOp a .Add b pos) (dOp dAdd fa fb) := de_op op_addA (opD_add (.inl rfl)) ha hb
theorem RVs.reverse {M : Pl} {H : Hp} : ∀ {ds : List D} {xs : List V}, RVs K M H ds xs → RVs K M H ds.reverse xs.reverse
  | _, _, .nil => .nil
  | _, _, .cons h t => by
    rw [List.reverse_cons, List.reverse_cons]
    exact (RVs.reverse t).append (.cons h .nil)
theorem RVs.rep {M : Pl} {H : Hp} {ds : List D} {xs : List V} (r : RVs K M H ds xs) : ∀ n : Nat, RVs K M H (List.replicate n ds).flatten (List.replicate n xs).flatten
  | 0 => .nil
  | n + 1 => by
    rw [List.replicate_succ, List.replicate_succ, List.flatten_cons, List.flatten_cons]
    exact r.append (RVs.rep r n)
def dMulG (fin : DK → List D → DSt → Prop) : DR2 := fun x y st Q => match x, y with
  | .int i, .int j => CMul i j ∧ Q (.int (i * j)) st
  | .tup xs, .int k => xs ≠ [] ∧ 1 ≤ k ∧ k ≤ 1000 ∧ xs.length ≤ 1000 ∧ Q (.tup (List.replicate k.toNat xs).flatten) st
  | x, .int k => onO (lstS st x) fun xs => (-1000 ≤ k ∧ xs.length * k.toNat ≤ 1000 ∧ k ≤ 100000000) ∧ fin Q (List.replicate k.toNat xs).flatten st
  | _, _ => False
abbrev dMul : DR2 := dMulG finT
def rMulA (K : Frag) : R2 := fun x y H Q => ((rI CMul fun i j => .int (i * j)) x y H Q ∨ rRepF K x y H Q) ∨ rRep x y H Q
theorem op_mulA : OpR X (binaryOp .Mult) (rMulA X.K) := OpR.or (OpR.or op_mul op_repF) op_rep
theorem opD_mul {fin : DK → List D → DSt → Prop} (fo : fin = finT ∨ fin = finN) : OpD T K (rMulA K) (dMulG fin) := by
  intro M H st x y vx vy Q' Q s rx ry h k
  unfold dMulG at h
  split at h
  · cases rx
    cases ry
    exact .inl (.inl ⟨_, _, rfl, rfl, h.1, k.here s (.int _) h.2⟩)
  · rename_i ds m
    obtain ⟨h1, h2, h3, h4, q⟩ := h
    have rx' := rx
    cases ry
    cases rx with
    | tup n1 e1 d1 r1 =>
      have em : ((m.toNat : Nat) : Int) = m := by omega
      refine .inl (.inr ⟨_, m.toNat, _, rfl, by rw [em], .inl (.inr ⟨_, e1⟩), fun z => h1 (r1.nil_iff.mpr z), by omega, by omega, by rw [← r1.length]; exact h4, fun z => ?_, fun _ p ob np hd => k.tup s (r1.rep m.toNat) np hd q⟩)
      rw [z, List.replicate_one, List.flatten_singleton] at q
      exact k.here s rx' q
  · obtain ⟨xs, e1, ⟨h1, h2, h3⟩, q⟩ := onO.of h
    obtain ⟨a, us, rfl, ha, ru⟩ := lstS.rd s rx e1
    cases ry
    have big : (1000 : Nat) ≤ sizeLine := by decide
    exact .inr ⟨a, _, us, rfl, rfl, ha, by omega, by omega, by rw [← ru.length]; omega, fun p np => fin_new' fo k s (ru.rep _) np q⟩
  · exact h.elim
theorem de_mul (ha : DE T X a fa) (hb : DE T X b fb) : DE T X (.BinOp a .Mult b pos) (dOp dMul fa fb) := de_op op_mulA (opD_mul (.inl rfl)) ha hb
def dRevV (x : D) (st : DSt) (Q : DK) : Prop := match x with
  | .tup xs => Q (.tup xs.reverse) st
  | _ => False
def dRev (f : DTE) : DTE := fun r st Q => f r st fun x st1 => dRevV x st1 Q
abbrev DTO := DEnv → DSt → (Option Int → DSt → Prop) → Prop
def liftO (T : List (Addr × Str)) (K : Frag) (f : DTO) : TO := fun σ H Q => ∃ M r st Q', RS T K M st H ∧ RE K M H r σ ∧ f r st Q' ∧ ∀ M' H' st' o, Grow M H M' H' → RS T K M' st' H' → Q' o st' → Q o H'
abbrev DO (T : List (Addr × Str)) (X : Cx) (e : Option Expr) (f : DTO) : Prop := PO X e (liftO T X.K f)
theorem PO.imp {e : Option Expr} {t t' : TO} (h : PO X e t) (i : ∀ σ H Q, t' σ H Q → t σ H Q) : PO X e t' := ⟨fun pins s σ H Q I z => h.run pins s σ H Q I (i σ H Q z)⟩
def oNone : DTO := fun _ st Q => Q none st
def oSome (f : DTE) : DTO := fun r st Q => f r st fun d st1 => onI d fun i => Q (some i) st1
theorem do_none : DO T X none oNone := PO.imp po_none fun σ H Q ⟨M, r, st, Q', s, re, h, k⟩ => k M H st none (Grow.refl M H) s h
theorem do_some (he : DE T X e f) : DO T X (some e) (oSome f) := PO.imp (po_some he) fun σ H Q ⟨M, r, st, Q', s, re, h, k⟩ => ⟨M, r, st, _, s, re, h, fun M1 H1 st1 d v g1 s1 r1 q => by
  obtain ⟨i, rfl, q⟩ := onI.of q
  cases r1
  exact ⟨i, rfl, k M1 H1 st1 _ g1 s1 q⟩⟩
def cutD (xs : List D) (lo hi : Option Int) : List D := (xs.drop (HT.sIx xs.length 0 lo)).take (HT.sIx xs.length xs.length hi - HT.sIx xs.length 0 lo)
theorem RVs.cutV {M : Pl} {H : Hp} {ds : List D} {vs : List V} (r : RVs K M H ds vs) (lo hi : Option Int) : RVs K M H (cutD ds lo hi) (L2.cutV vs lo hi) := by
  unfold cutD L2.cutV
  rw [r.length]
  exact (r.drop _).take _
def dSlV (fin : DK → List D → DSt → Prop) : D → Option Int → Option Int → DSt → DK → Prop := fun x lo hi st Q => match x with
  | .tup xs => Q (.tup (cutD xs lo hi)) st
  | .lst xs => fin Q (cutD xs lo hi) st
  | .ref n => onO (seqS st (.ref n)) fun xs => fin Q (cutD xs lo hi) st
  | _ => False
def dSlG (fin : DK → List D → DSt → Prop) (f : DTE) (lo hi : DTO) : DTE := fun r st Q => f r st fun x st1 => lo r st1 fun l st2 => hi r st2 fun u st3 => dSlV fin x l u st3 Q
def rSl2 (K : Frag) : V → Option Int → Option Int → Hp → VK → Prop := fun x lo hi H Q => rSlF K x lo hi H Q ∨ rSlL K x lo hi H Q
theorem sl_2 : SlR X (rSl2 X.K) := SlR.or sl_F sl_list
theorem fin_new {fin : DK → List D → DSt → Prop} (fo : fin = finT ∨ fin = finN) {M : Pl} {H : Hp} {st : DSt} {ds : List D} {xs : List V} {Q' : DK} {Q : VK} {q : Addr} (k : Kn T K M H Q' Q) (s : RS T K M st H) (r : RVs K M H ds xs) (nq : H q = none) (h : fin Q' ds st) : Q (.ref q) (upd H q (.lst xs)) := by
  rcases fo with rfl | rfl
  · exact k.lst s r nq h
  · exact k.own s r nq h
theorem cut_whole {xs : List D} {lo hi : Option Int} (h : HT.sIx xs.length 0 lo = 0 ∧ HT.sIx xs.length xs.length hi = xs.length) : cutD xs lo hi = xs := by
  unfold cutD
  rw [h.1, h.2]
  simp
theorem de_slice {fin : DK → List D → DSt → Prop} (fo : fin = finT ∨ fin = finN) {lo hi : Option Expr} {flo fhi : DTO} {p2 : Pos} (he : DE T X e f) (hl : DO T X lo flo) (hu : DO T X hi fhi) : DE T X (.Subscript e (.Slice lo hi none p2) pos) (dSlG fin f flo fhi) :=
  PE.imp (pe_slice sl_2 he hl hu) fun σ H Q ⟨M, r, st, Q', s, re, h, k⟩ => ⟨M, r, st, _, s, re, h, fun M1 H1 st1 x vx g1 s1 r1 q1 => ⟨M1, r, st1, _, s1, re.grow g1, q1, fun M2 H2 st2 l g2 s2 q2 => ⟨M2, r, st2, _, s2, (re.grow g1).grow g2, q2, fun M3 H3 st3 u g3 s3 q3 => by
    have rx := (r1.grow g2).grow g3
    have k3 := ((k.grow g1).grow g2).grow g3
    unfold dSlV at q3
    split at q3
    · have rx' := rx
      cases rx with
      | tup n e0 d0 rs =>
        refine .inl ⟨_, _, rfl, .inl (.inr ⟨_, e0⟩), fun wh => ?_, fun _ p ob np hd => k3.tup s3 (rs.cutV l u) np hd q3⟩
        rw [← rs.length] at wh
        rw [cut_whole wh] at q3
        exact k3.here s3 rx' q3
    · cases rx with
      | lst n e0 rs => exact .inr ⟨_, _, rfl, .inl (.inl e0), fun q nq => fin_new fo k3 s3 (rs.cutV l u) nq q3⟩
    · obtain ⟨xs, e0, q3⟩ := onO.of q3
      cases rx with
      | ref hm =>
        obtain ⟨o, e1, ro⟩ := s3.atM hm
        unfold seqS at e0
        simp only [e1] at e0
        cases o with
        | lst zs => cases e0; obtain ⟨ys, q, rs⟩ := ro; exact .inr ⟨_, ys, rfl, .inl (.inl q), fun q nq => fin_new fo k3 s3 (rs.cutV l u) nq q3⟩
        | dK _ => cases e0
        | dT _ => cases e0
    · exact q3.elim⟩⟩⟩
def dSortI (fin : DK → List D → DSt → Prop) : DRs := fun ds st Q => on1 ds fun x => onO (seqS st x) fun xs => onO (intsD xs) fun ns => ns.length ≤ 100000 ∧ ∀ out : List Int, out.Perm ns → out.Pairwise (· ≤ ·) → fin Q (out.map D.int) st
def rSort2 (K : Frag) : List V → Hp → VK → Prop := fun vs H Q => rSortedI K vs H Q ∨ rSortT K vs H Q
theorem call_sort2 : CallR X (.builtin "sorted") (rSort2 X.K) := CallR.or cr_sortedI cr_sortT
theorem callD_sort {fin : DK → List D → DSt → Prop} (fo : fin = finT ∨ fin = finN) : CallD T K (rSort2 K) (dSortI fin) := by
  intro M H st ds vs Q' Q s r h k
  obtain ⟨x, rfl, h1⟩ := on1.of h
  obtain ⟨xs, e, h2⟩ := onO.of h1
  obtain ⟨ns, e2, le, h3⟩ := onO.of h2
  have e2 := intsD_of e2
  subst e2
  obtain ⟨v, rfl, rv⟩ := r.one
  obtain ⟨p, ys, rfl, sq, rs⟩ := seqS.rd s rv e
  have z := rs.ints
  subst z
  rcases sq with sq | sq
  · exact .inl ⟨p, ns, rfl, sq, fun out q p1 p2 nq => fin_new fo k s (RVs.of_ints out) nq (h3 out p1 p2)⟩
  · exact .inr ⟨p, ns, rfl, sq, fun out q p1 p2 nq => fin_new fo k s (RVs.of_ints out) nq (h3 out p1 p2)⟩
def dLRg1 (fin : DK → List D → DSt → Prop) (f : DTE) : DTE := fun r st Q => f r st fun x st1 => onI x fun j => RgOk 0 j ∧ fin Q (rgD 0 j.toNat) st1
theorem RVs.of_rg {M : Pl} {H : Hp} (lo : Int) (n : Nat) : RVs K M H (rgD lo n) ((List.range n).map fun i => V.int (lo + (i : Nat))) := by
  unfold rgD
  generalize List.range n = l
  induction l with
  | nil => exact .nil
  | cons i l ih => exact .cons (.int _) ih
theorem de_listRg1 {fin : DK → List D → DSt → Prop} (fo : fin = finT ∨ fin = finN) {p2 pos2 : Pos} (hc : X.calm = true) (hg : Gl X "list") (hm : X.mg "list" = none) (hg2 : Gl X "range") (hm2 : X.mg "range" = none) (ha : DE T X a f)
    (na : starEach [a] X.env = (false, eval a X.env) :: starEach [] X.env := by rfl) (nb : starEach [Expr.Call (.Name "range" p2) [a] [] pos2] X.env = (false, eval (Expr.Call (.Name "range" p2) [a] [] pos2) X.env) :: starEach [] X.env := by rfl) :
    DE T X (.Call (.Name "list" p) [.Call (.Name "range" p2) [a] [] pos2] [] pos) (dLRg1 fin f) :=
  PE.imp (pe_listRg hc hg hm (prg_1 hg2 hm2 ha na) nb) fun σ H Q ⟨M, r, st, Q', s, re, h, k⟩ => ⟨M, r, st, _, s, re, h, fun M1 H1 st1 x vx g1 s1 r1 q1 => by
    obtain ⟨j, rfl, ok, q2⟩ := onI.of q1
    cases r1
    refine ⟨j, rfl, ok, fun q nq => fin_new fo (k.grow g1) s1 ?_ nq q2⟩
    unfold rgV
    rw [Int.sub_zero]
    exact RVs.of_rg 0 j.toNat⟩
def tyN (st : DSt) : D → Option String
  | .non => some "NoneType" | .bl _ => some "bool" | .int _ => some "int" | .str _ => some "str" | .lst _ => some "list" | .scr _ => some "list" | .tup _ => some "tuple" | .tuk _ => some "tuple"
  | .ref n => match st[n]? with | some (.lst _) => some "list" | some (.dK _) => some "dict" | some (.dT _) => some "dict" | none => none
theorem RV.ty {M : Pl} {H : Hp} {st : DSt} {d : D} {v : V} {t : String} (s : RS T K M st H) (r : RV K M H d v) (h : DL.tyN st d = some t) : TyX K H v (.type t) := by
  cases r with
  | non => cases h; exact .base .non
  | bl b => cases h; exact .base (.bl b)
  | int i => cases h; exact .base (.int i)
  | str x => cases h; exact .base (.str x)
  | tup n e d rs => cases h; exact .fTuple e
  | tuk n e rs => cases h; exact .base (.tup e)
  | lst n e rs => cases h; exact .base (.lst e)
  | scr n e rs =>
    cases h
    rcases e with e | ⟨o, e⟩
    · exact .base (.lst e)
    · exact .base (.frz e)
  | lsk e rs =>
    cases h
    rcases e (fun _ => none) with (z | ⟨o, z⟩) | ⟨o, its, n, h1, h2, _⟩
    · cases z
    · cases z
    · exact .kList h1 h2
  | ref hm =>
    obtain ⟨o, e1, ro⟩ := s.atM hm
    unfold DL.tyN at h
    simp only [e1] at h
    cases o with
    | lst zs => cases h; obtain ⟨ys, q, rs⟩ := ro; exact .base (.lst q)
    | dK zs => cases h; obtain ⟨ys, q, rs⟩ := ro; exact .base (.dK q)
    | dT zs => cases h; obtain ⟨ys, q, rs⟩ := ro; exact .base (.dT q)
def subTy (t u : String) : Bool := decide (t = u) || (decide (t = "bool") && decide (u = "int"))
def dIsi (u : String) (f : DTE) : DTE := fun r st Q => f r st fun x st1 => onO (DL.tyN st1 x) fun t => Q (.bl (subTy t u)) st1
end
abbrev DPE := DEnv → DSt → Option D
def liftP (T : List (Addr × Str)) (K : Frag) (f : DPE) : TE := fun σ H Q => ∃ M r st d, RS T K M st H ∧ RE K M H r σ ∧ f r st = some d ∧ ∀ H' v, Same H H' → RV K M H' d v → Q v H'
abbrev DP (T : List (Addr × Str)) (X : Cx) (e : Expr) (f : DPE) : Prop := PE X e (liftP T X.K f)
theorem grow_ext {T : List (Addr × Str)} {K : Frag} {M : Pl} {st : DSt} {H H' : Hp} (s : RS T K M st H) (e : ExtN H H') : Grow M H M H' :=
  ⟨⟨[], (Pl.app_nil M).symm, fun _ h => nomatch h⟩, fun a o _ h t => e a o h t, fun a ⟨o, h, t⟩ => ⟨o, e a o h t, t⟩, fun a ha => by
    obtain ⟨xs, q⟩ := s.hid a ha
    rw [q]
    exact e a _ q (fun ps z => by cases z)⟩
theorem RS.ext {T : List (Addr × Str)} {K : Frag} {M : Pl} {st : DSt} {H H' : Hp} (s : RS T K M st H) (e : ExtN H H') (t : Tabs T H') : RS T K M st H' := by
  refine ⟨s.len, s.nd, fun n a o e1 e2 => ?_, t, s.hid.keep (grow_ext s e)⟩
  have ro := s.obj n a o e1 e2
  refine ro.stay (grow_ext s e) ?_
  rcases ro.mut with ⟨xs, q⟩ | ⟨xs, q⟩ | ⟨xs, q⟩ <;> (rw [q]; exact e _ _ q (fun ps z => by cases z))
theorem RS.same {T : List (Addr × Str)} {K : Frag} {M : Pl} {st : DSt} {H H' : Hp} (s : RS T K M st H) (e : Same H H') : RS T K M st H' := s.ext (ExtN.of e) (s.tabs.ext e)
theorem same_grow {T : List (Addr × Str)} {K : Frag} {M : Pl} {st : DSt} {H H' : Hp} (s : RS T K M st H) (e : Same H H') : Grow M H M H' := grow_ext s (ExtN.of e)
theorem sameT {H H1 H2 : Hp} (a : Same H H1) (b : Same H1 H2) : Same H H2 := fun c o h => b c o (a c o h)
theorem same_up {H : Hp} {p : Addr} {o : HO} (h : H p = none) : Same H (upd H p o) := fun b u e => by rw [upd_ne (ne_of_none e h)]; exact e
section
variable {T : List (Addr × Str)} {X : Cx} {a b : Expr} {fa fb : DPE} {pos p : Pos}
def pVar (i : Nat) : DPE := fun r _ => match r[i]? with | some (some d) => some d | _ => none
def pNeg (f : DPE) : DPE := fun r st => match f r st with | some (.int i) => some (.int (-i)) | _ => none
def pIx (f g : DPE) : DPE := fun r st => match f r st, g r st with | some d, some (.int i) => (match seqS st d with | some xs => atI xs i | none => none) | _, _ => none
def pIndex (f g : DPE) : DPE := fun r st => match f r st, g r st with | some (.tup xs), some (.int z) => (match intsD xs with | some ns => (ixOf z ns).map fun j => .int (j : Nat) | none => none) | _, _ => none
def pTup2 (f g : DPE) : DPE := fun r st => match f r st, g r st with | some d, some e => some (.tuk [d, e]) | _, _ => none
theorem dp_var {i : Nat} {e : Expr} (h : PE X e (tVar i)) : DP T X e (pVar i) := PE.imp h fun σ H Q ⟨M, r, st, d, s, re, hf, k⟩ => by
  unfold pVar at hf
  split at hf
  · rename_i d' e
    cases hf
    obtain ⟨v, e1, rv⟩ := re.at_ i _ e
    exact ⟨v, e1, k H v (fun _ _ h => h) rv⟩
  · cases hf
theorem dp_neg (ha : DP T X a fa) : DP T X (.UnaryOp .USub a pos) (pNeg fa) := PE.imp (pe_un un_neg ha) fun σ H Q ⟨M, r, st, d, s, re, hf, k⟩ => by
  unfold pNeg at hf
  split at hf
  · rename_i i e
    cases hf
    exact ⟨M, r, st, _, s, re, e, fun H1 v sm rv => by cases rv; exact ⟨i, rfl, k H1 _ sm (.int _)⟩⟩
  · cases hf
theorem dp_ix (ha : DP T X a fa) (hb : DP T X b fb) (hs : PlainIx b) : DP T X (.Subscript a b pos) (pIx fa fb) := PE.imp (pe_ix ix_seq ha hb hs) fun σ H Q ⟨M, r, st, d, s, re, hf, k⟩ => by
  unfold pIx at hf
  split at hf
  · rename_i y i e1 e2
    split at hf
    · rename_i xs e3
      refine ⟨M, r, st, _, s, re, e1, fun H1 v sm rv => ⟨M, r, st, _, s.same sm, re.grow (same_grow s sm), e2, fun H2 v2 sm2 rv2 => ?_⟩⟩
      cases rv2
      have sm12 := sameT sm sm2
      obtain ⟨q, ys, rfl, sq, rs⟩ := seqS.rd (s.same sm12) (rv.grow (same_grow (s.same sm) sm2)) e3
      obtain ⟨w, e4, rw'⟩ := rs.atI hf
      rcases sq with sq | sq
      · exact .inl ⟨q, ys, i, w, rfl, rfl, sq, e4, k H2 w sm12 rw'⟩
      · exact .inr (.inl ⟨q, ys, i, w, rfl, rfl, sq, e4, k H2 w sm12 rw'⟩)
    · cases hf
  · cases hf
theorem dp_index {o e : Expr} {apos cpos : Pos} {fo fe : DPE} (ho : DP T X o fo) (ha : DP T X e fe)
    (h1 : attributeBase o "index" X.env (eval o X.env) = eval o X.env := by rfl)
    (h2 : ((backTo cpos (starEach [e] X.env)).all (fun x => !x.1) && (backToKw cpos (keywordEach [] X.env)).all (fun x => x.1.isSome) && decide ([e].length + ([] : List Keyword).length + (if ([] : List Keyword).isEmpty then 0 else 1) < 30)) = true := by rfl)
    (h3 : (apos.endLine == cpos.line) = true := by rfl) (h4 : starEach [e] X.env = (false, eval e X.env) :: starEach [] X.env := by rfl) :
    DP T X (.Call (.Attribute o "index" apos) [e] [] cpos) (pIndex fo fe) :=
  PE.imp (pe_bmF PySem.F.plainAttrs_tuple PySem.F.slot_tuple_index PySem.F.type_tuple_index mt_tup_indexI ho (pa_cons ha pa_nil h4) h1 h2 h3 h4 rfl) fun σ H Q ⟨M, r, st, d, s, re, hf, k⟩ => by
    unfold pIndex at hf
    split at hf
    · rename_i xs z e1 e2
      split at hf
      · rename_i ns e3
        simp only [Option.map_eq_some_iff] at hf
        obtain ⟨j, e4, rfl⟩ := hf
        have e3 := intsD_of e3
        subst e3
        refine ⟨M, r, st, _, s, re, e1, fun H1 v sm rv => ?_⟩
        have rv' := rv
        cases rv with
        | tup n e0 d0 rs =>
          refine ⟨⟨_, _, rfl, _, e0, d0⟩, M, r, st, _, s.same sm, re.grow (same_grow s sm), e2, fun H2 v2 sm2 rv2 => ?_⟩
          cases rv2
          have r3 := rv'.grow (same_grow (s.same sm) sm2)
          cases r3 with
          | tup n' e0' d0' rs' =>
            have zz := rs'.ints
            subst zz
            obtain ⟨a1, a2⟩ := ixOf_spec e4
            exact ⟨_, ns, z, j, rfl, rfl, .inl (.inr ⟨_, e0'⟩), a1, a2, k H2 _ (sameT sm sm2) (.int _)⟩
      · cases hf
    · cases hf
theorem dp_tup2 {x1} (ha : DP T X a fa) (hb : DP T X b fb) (h1 : starEach [a, b] X.env = (false, eval a X.env) :: starEach [b] X.env := by rfl) (h2 : starEach [b] X.env = (false, eval b X.env) :: starEach [] X.env := by rfl) : DP T X (.Tuple [a, b] x1 pos) (pTup2 fa fb) :=
  PE.imp (pe_tup (pa_cons ha (pa_cons hb pa_nil h2) h1)) fun σ H Q ⟨M, r, st, d, s, re, hf, k⟩ => by
    unfold pTup2 at hf
    split at hf
    · rename_i y z e1 e2
      cases hf
      refine ⟨M, r, st, _, s, re, e1, fun H1 v sm rv => ⟨M, r, st, _, s.same sm, re.grow (same_grow s sm), e2, fun H2 v2 sm2 rv2 => ⟨by show 2 ≤ sizeLine; decide, fun p np => ?_⟩⟩⟩
      have sm3 : Same H2 (upd H2 p (.tup [v, v2])) := same_up np
      have s2 := s.same (sameT sm sm2)
      refine k _ _ (sameT (sameT sm sm2) sm3) (.tuk (s2.notin np) upd_same (.cons ?_ (.cons ?_ .nil)))
      · exact (rv.grow (same_grow (s.same sm) sm2)).grow (same_grow s2 sm3)
      · exact rv2.grow (same_grow s2 sm3)
    · cases hf
end
def KeyD (d : D) (k : PyData) : Prop := (∃ i : Int, d = .int i ∧ k = .int i) ∨ ∃ i j : Int, d = .tuk [.int i, .int j] ∧ k = .tuple [.int i, .int j]
def dSortR (fin : DK → List D → DSt → Prop) (fe : DTE) (fb : DPE) : DTE := fun r st Q => fe r st fun n st1 => onI n fun m => (0 ≤ m ∧ m ≤ 1000) ∧ ∃ k : Nat → PyData, (AllAlike ((List.range m.toNat).map k) ∧ Sortable ((List.range m.toNat).map k) ∧ ∀ i : Nat, (k i).depth ≤ 20) ∧
  (∀ i : Nat, i < m.toNat → ∃ d, fb (r ++ [some (.int i)]) st1 = some d ∧ KeyD d (k i)) ∧ fin Q (((List.range m.toNat).mergeSort (dataLe false k)).map fun i : Nat => D.int (i : Int)) st1
theorem RE.snoc {K : Frag} {M : Pl} {H : Hp} {r : DEnv} {σ : L2.St} {d : D} {v : V} (h : RE K M H r σ) (rv : RV K M H d v) : RE K M H (r ++ [some d]) (σ ++ [some v]) := by
  refine ⟨by simp [h.len], fun i c e => ?_⟩
  by_cases lt : i < r.length
  · rw [List.getElem?_append_left lt] at e
    rw [List.getElem?_append_left (by rw [← h.len]; exact lt)]
    exact h.at_ i c e
  · rw [List.getElem?_append_right (by omega)] at e
    rw [List.getElem?_append_right (by rw [← h.len]; omega)]
    have i0 : i - r.length = 0 := by
      have := (List.getElem?_eq_some_iff.mp e).1
      simp at this
      omega
    rw [i0] at e
    rw [← h.len, i0]
    cases e
    exact ⟨v, rfl, rv⟩
theorem lift_sortR {T : List (Addr × Str)} {K : Frag} {fin : DK → List D → DSt → Prop} (fo : fin = finT ∨ fin = finN) {fe : DTE} {fb : DPE} {σ : L2.St} {H : Hp} {Q : VK} (h : lift T K (dSortR fin fe fb) σ H Q) : tSortKey T (lift T K fe) (liftP T K fb) σ H Q := by
  obtain ⟨M, r, st, Q', s, re, h, k⟩ := h
  refine ⟨M, r, st, _, s, re, h, fun M1 H1 st1 n vn g1 s1 r1 q => ?_⟩
  obtain ⟨m, rfl, ⟨m0, m1⟩, key, ⟨a1, a2, a3⟩, a4, a5⟩ := onI.of q
  cases r1
  refine ⟨m.toNat, by rw [Int.toNat_of_nonneg m0], by omega, s1.tabs, fun H2 ext tabs => ?_⟩
  have s2 := s1.ext ext tabs
  have g2 := grow_ext s1 ext
  refine ⟨key, a1, a2, a3, fun i H3 lt sm => ?_, fun H3 p sm np => ?_⟩
  · obtain ⟨d, e, kd⟩ := a4 i lt
    have s3 := s2.same sm
    refine ⟨M1, r ++ [some (.int i)], st1, d, s3, (((re.grow g1).grow g2).grow (same_grow s2 sm)).snoc (.int _), e, fun H4 v sm4 rv => ⟨sm4, ?_⟩⟩
    rcases kd with ⟨i, rfl, ek⟩ | ⟨i, j, rfl, ek⟩
    · cases rv; exact .inl ⟨i, rfl, ek⟩
    · cases rv with
      | tuk nn e0 rs =>
        obtain ⟨w1, w2, rfl, q1, q2⟩ := rs.two
        cases q1
        cases q2
        exact .inr ⟨_, i, j, rfl, e0, ek⟩
  · have s3 := s2.same sm
    have g13 : Grow M1 H1 M1 H3 := g2.trans (same_grow s2 sm)
    refine fin_new fo ((k.grow g1).grow g13) s3 ?_ np a5
    generalize (List.range m.toNat).mergeSort (dataLe false key) = l
    induction l with
    | nil => exact .nil
    | cons i l ih => exact .cons (.int _) ih
end DL
namespace DL
open PySem PySem.Spec PyProof.Rows L2 LamX PySem.W SL
section
variable {T : List (Addr × Str)} {X : Cx} {a b c e : Expr} {es : List Expr} {fa fb fc f : DTE} {fs : DTA} {pos p : Pos} {K : Frag}
def dLtG : DR2 := fun x y st Q => match x, y with
  | .int i, .int j => Q (.bl (decide (i < j))) st
  | .tup xs, .tup ys => onO (intsD xs) fun ns => onO (intsD ys) fun ms => Q (.bl (HT.lexLt ns ms)) st
  | _, _ => False
def rLtG (K : Frag) : R2 := fun x y H Q => (rI0 fun i j => .bl (decide (i < j))) x y H Q ∨ rLtT K x y H Q
theorem op_ltG (hu : X.A.units < cLine) : OpR X (compareOp .Lt) (rLtG X.K) := OpR.or op_lt (op_ltT hu)
theorem opD_ltG : OpD T K (rLtG K) dLtG := by
  intro M H st x y vx vy Q' Q s rx ry h k
  unfold dLtG at h
  split at h
  · cases rx
    cases ry
    exact .inl ⟨_, _, rfl, rfl, k.here s (.bl _) h⟩
  · rename_i xs ys
    obtain ⟨ns, e1, h1⟩ := onO.of h
    obtain ⟨ms, e2, h2⟩ := onO.of h1
    have e1 := intsD_of e1
    have e2 := intsD_of e2
    subst e1
    subst e2
    cases rx with
    | tup n1 e1 d1 r1 =>
      cases ry with
      | tup n2 e2 d2 r2 =>
        have z1 := r1.ints
        have z2 := r2.ints
        subst z1
        subst z2
        exact .inr ⟨_, _, ns, ms, rfl, rfl, .inl (.inr ⟨_, e1⟩), .inl (.inr ⟨_, e2⟩), k.here s (.bl _) h2⟩
  · exact h.elim
def perm {α : Type} (ix : List Nat) (xs : List α) : List α := ix.filterMap (xs[·]?)
theorem RVs.perm {M : Pl} {H : Hp} {ds : List D} {vs : List V} (r : RVs K M H ds vs) : ∀ ix : List Nat, RVs K M H (DL.perm ix ds) (DL.perm ix vs)
  | [] => .nil
  | i :: ix => by
    unfold DL.perm
    rw [List.filterMap_cons, List.filterMap_cons]
    cases q : ds[i]? with
    | none =>
      have z : vs[i]? = none := by
        rw [List.getElem?_eq_none_iff] at q ⊢
        rw [← r.length]
        exact q
      rw [z]
      exact RVs.perm r ix
    | some d =>
      obtain ⟨v, e, rv⟩ := r.get q
      rw [e]
      exact .cons rv (RVs.perm r ix)
abbrev DKw (T : List (Addr × Str)) (X : Cx) (kws : List Keyword) (f : DTA) : Prop := PK X kws (liftA T X.K f)
theorem PK.imp {kws : List Keyword} {t t' : TA} (h : PK X kws t) (i : ∀ σ H Q, t' σ H Q → t σ H Q) : PK X kws t' := ⟨fun pos pins s σ H Q I z => h.run pos pins s σ H Q I (i σ H Q z)⟩
theorem dk_nil : DKw T X [] daNil := PK.imp pk_nil fun σ H Q ⟨M, ρ, st, Q', s, re, hf, k⟩ => k M H st [] [] (Grow.refl M H) s .nil hf
theorem dk_cons {nm : Option Str} {kpos : Pos} {kws : List Keyword} {g : DTA} (ha : DE T X e f) (hr : DKw T X kws g) : DKw T X (⟨nm, e, kpos⟩ :: kws) (daCons f g) :=
  PK.imp (pk_cons ha hr) fun σ H Q ⟨M, ρ, st, Q', s, re, hf, k⟩ =>
    ⟨M, ρ, st, _, s, re, hf, fun M1 H1 st1 x vx g1 s1 r1 h1 => ⟨M1, ρ, st1, _, s1, re.grow g1, h1, fun M2 H2 st2 ds vs g2 s2 r2 h2 => k M2 H2 st2 _ _ (g1.trans g2) s2 (.cons (r1.grow g2) r2) h2⟩⟩
end
end DL
namespace SL
open PySem PySem.Spec PyProof.Rows L2
section
open PySem.AutoSeq1 (wpAny_loadPart')
set_option maxHeartbeats 1000000 in
theorem enum_new (l : Addr) (items : Array Value) : Meets (Builtin.«enumerate.__new__» ⟨[.type "enumerate", .ref l], []⟩) (fun _ R s => s.heap.IsTuple l items ∧
      R (.ok (.ret (.ref (s.heap.push { cls := .type "tuple_iterator", data := .fields #[.ref l, .int 0 0] }).objs.size)))
        { s with heap := (s.heap.push { cls := .type "tuple_iterator", data := .fields #[.ref l, .int 0 0] }).push { cls := .type "enumerate", data := .fields #[.none, .bool false, .ref s.heap.objs.size, rawInt 0, .none, .none] } }) :=
  .of_wp fun prog w A R s hyp => by
    obtain ⟨hp, gens, dr, tk, os⟩ := s
    obtain ⟨isT, goal⟩ := hyp
    have sub := sub_enumerate
    have iter : ∀ {A' : Around} {E : Value → Shared → Prop} {Q : Value → Shared → Prop}, Q (.ref hp.objs.size) ⟨hp.push { cls := .type "tuple_iterator", data := .fields #[.ref l, .int 0 0] }, gens, dr, tk, os⟩ → wpAny (model prog w) A' (pyIter (.ref l)) Q E ⟨hp, gens, dr, tk, os⟩ :=
      fun q => wpAny_pyIter_tuple isT q
    wp_walk using iter
    refine wpAny_stack_any fun st => wpAny_pure ?_
    split
    · rename_i c _ _ _ _ _
      cases (c == Value.type "enumerate") <;> (wp_walk using iter; exact ⟨_, rfl, goal⟩)
    · wp_walk using iter
      exact ⟨_, rfl, goal⟩
end
section
variable {prog : Program} {w : World} {A : Around} {E : Value → Shared → Prop} {s : Shared}
theorem enum_call {l : Addr} {items : Array Value} {Q : Value → Shared → Prop} (isT : s.heap.IsTuple l items)
    (h : ∀ h', IsEnum h' (s.heap.objs.size + 1) s.heap.objs.size 0 .none → h'.IsTupleIter s.heap.objs.size l 0 →
      (∀ b o, s.heap.get? b = some o → h'.get? b = some o) → Q (.ref (s.heap.objs.size + 1)) { s with heap := h' }) :
    wpAny (model prog w) A (call (.type "enumerate") [.ref l]) Q E s := by
  refine callType_new F.called_enumerate (by decide) (F.typeCall_enumerate_1 _) (F.newCall_enumerate_1 _) (fun obj => F.args_object_init_2 obj _) F.entry_enumerate_new (enum_new l items) ⟨isT, ?_⟩
  have hz : (s.heap.push { cls := .type "tuple_iterator", data := .fields #[.ref l, .int 0 0] }).objs.size = s.heap.objs.size + 1 := Heap.size_push ..
  show _ ∧ _
  rw [hz]
  have he : IsEnum ((s.heap.push { cls := .type "tuple_iterator", data := .fields #[.ref l, .int 0 0] }).push
      { cls := .type "enumerate", data := .fields #[.none, .bool false, .ref s.heap.objs.size, rawInt 0, .none, .none] }) (s.heap.objs.size + 1) s.heap.objs.size 0 .none := by
    have z := Heap.get?_push_size (s.heap.push { cls := .type "tuple_iterator", data := .fields #[.ref l, .int 0 0] })
      (o := { cls := .type "enumerate", data := .fields #[.none, .bool false, .ref s.heap.objs.size, rawInt 0, .none, .none] }) rfl
    rw [hz] at z
    exact z
  exact ⟨⟨_, he, rfl⟩, h _ he ⟨_, Heap.get?_push_of_some _ (Heap.get?_push_size _ rfl), rfl, rfl⟩ fun b o x => Heap.get?_push_of_some _ (Heap.get?_push_of_some _ x)⟩
end
def IteT (K : PySem.W.Frag) (a : Addr) : It :=
  ⟨fun i H => ∃ (xs : List V) (x : V), SqT K H a xs ∧ xs[i]? = some x, fun i H v H' => ∃ T x, v = .ref T ∧ H T = none ∧ H' = upd H T (.tup [.int (i : Nat), x]) ∧ ∀ xs, SqT K H a xs → xs[i]? = some x,
    fun i H => ∃ xs : List V, SqT K H a xs ∧ xs.length = i⟩
theorem turn_enumT {P : Program} {w : World} {K : PySem.W.Frag} {elts : List Expr} {kk : Nat} {tpos : Pos} (a e it : Addr) :
    Turn P w K (.Tuple elts kk tpos) (IteT K a) [e, it] e (fun i h => (∃ old, IsEnum h e it ((i : Nat) : Int) old) ∧ h.IsTupleIter it a i ∧ e ≠ it ∧ a ≠ it ∧ a ≠ e) where
  mem := by simp
  obj := by
    rintro i h ⟨⟨old, he⟩, ⟨o, ho, hc, hd⟩, _⟩ b hb
    have cs : b = e ∨ b = it := by simpa using hb
    rcases cs with z | z
    · rw [z]
      exact ⟨_, he, fun v q => nomatch q⟩
    · rw [z]
      exact ⟨o, ho, fun v q => by rw [hd] at q; cases q⟩
  keep := by
    rintro i h h' ⟨⟨old, he⟩, hi, r⟩ k
    exact ⟨⟨old, k e (by simp) _ he⟩, hi.at fun o q => k it (by simp) o q, r⟩
  item := by
    rintro X rfl rfl rfl calm i pins s σ H E I hf ⟨⟨old, he⟩, hit, hne, ai, ae⟩ ⟨xs, x, hq, hx⟩
    obtain ⟨its, rv, ht, hz⟩ := I.tuple hq
    obtain ⟨u, hu, ru⟩ := rv.get hx
    have hel : e < s.heap.objs.size := Heap.lt_size he
    have hil : it < s.heap.objs.size := by
      obtain ⟨_, q, _⟩ := hit
      exact Heap.lt_size q
    have li : i < its.toArray.size := by
      rw [List.size_toArray]
      exact (List.getElem?_eq_some_iff.mp hu).1
    have dr := Draws.tuple (prog := X.prog) (w := X.w) (A := X.A.in1) (show X.A.in1.handled = none from I.ok.hd calm) it a ai its.toArray
    refine wpAny_pyNext_enum_itemD dr he ⟨hit, ht⟩ li hne (by simp [hne, Ne.symm ae]) fun y h' tk hy ho st' hT hsz hk => ?_
    have ey : y = u := by
      have z : its[i]? = some y := by simpa using hy
      rw [hu] at z
      exact (Option.some.inj z).symm
    subst ey
    refine ⟨_, rfl, wpAny_letOwnedTupleGo_enum (s := { s with heap := h', toks := tk + 1 }) ho fun h'' he' sb => ?_⟩
    have hT2 : h''.get? s.heap.objs.size = some { cls := .type "tuple", data := .seq #[.int i tk, y] } := (sb.2 _ (Nat.ne_of_gt hel)).trans hT
    have fresh : ObjOk X.prog X.w (upd H s.heap.objs.size (.tup [.int (i : Nat), x])) h'' s.heap.objs.size (.tup [.int (i : Nat), x]) :=
      ⟨by show 2 ≤ sizeLine; decide, [.int i tk, y], .cons ⟨_, rfl⟩ (.cons ru .nil), ⟨_, hT2, rfl, _, rfl⟩⟩
    have I1 : Inv X pins σ (upd H s.heap.objs.size (.tup [.int (i : Nat), x])) { s with heap := h'', toks := tk + 1 } :=
      I.turnedNew (ch := [e, it]) (fun b ob hb q => (sb.2 b (fun z => hb (by simp [z]))).trans (hk b ob (fun z => hb (by simp [z])) (fun z => hb (by simp [z])) q)) hf (Nat.le_refl _) fresh
    refine ⟨.ref s.heap.objs.size, _, I1, rfl, ⟨_, x, rfl, I.hok.fresh (Nat.le_refl _), rfl, fun ys hy => by rw [I.tuple_inj hy hq]; exact hx⟩, ⟨⟨y, ?_⟩, st'.1.at fun o q => (sb.2 it (Ne.symm hne)).trans q, hne, ai, ae⟩, fun b hb => ?_⟩
    · rw [show ((i + 1 : Nat) : Int) = (i : Int) + 1 by omega]
      exact he'
    · have hb' : b < s.heap.objs.size := by
        have cs : b = e ∨ b = it := by simpa using hb
        rcases cs with z | z
        · rw [z]
          exact hel
        · rw [z]
          exact hil
      rw [upd_ne (Nat.ne_of_lt hb')]
      exact (hf b hb).1
  done := by
    rintro X rfl rfl rfl calm i pins s σ H E I hf ⟨⟨old, he⟩, hit, hne, ai, ae⟩ ⟨xs, hq, hx⟩
    obtain ⟨its, rv, ht, hz⟩ := I.tuple hq
    obtain ⟨f0, f1, f2, f3, f4, f5⟩ := hf it (by simp)
    have si : its.toArray.size = i := by rw [List.size_toArray, ← rv.length]; exact hx
    have dr := Draws.tuple (prog := X.prog) (w := X.w) (A := X.A.in1) (show X.A.in1.handled = none from I.ok.hd calm) it a ai its.toArray
    exact wpAny_pyNext_enum_endD dr he ⟨by rw [si]; exact hit, ht⟩ fun h' eb => ⟨rfl, I.turned (t' := s.toks) (fun b o hb q => eb b o hb q) f0 f1 f3 f4 f5⟩
  self := fun A i s Q E st h => let ⟨⟨_, he⟩, _⟩ := st; wpAny_pyIter_enum he h
def iEnum2 (K : PySem.W.Frag) (ta : TA) : TI := fun σ H R => ta σ H fun vs H1 => ∃ a, vs = [.ref a] ∧ (((∃ xs, SqL K H1 a xs) ∧ R (Ite K a) H1) ∨ ((∃ xs, SqT K H1 a xs) ∧ R (IteT K a) H1))
theorem pi_enum2 {X : Cx} {e : Expr} {ta : TA} {p pos tpos : Pos} {elts : List Expr} {kk : Nat} (g1 : Gl X "enumerate") (m1 : X.mg "enumerate" = none) (ha : PA X [e] ta) (one : starEach [e] X.env = [(false, eval e X.env)] := by rfl) :
    PI X (.Tuple elts kk tpos) (.Call (.Name "enumerate" p) [e] [] pos) (iEnum2 X.K ta) := by
  constructor
  intro pins s σ H R I h
  refine Call_ (ld_blt I g1 m1 boot_enumerate (callWith_type1 (thn (ha.run pos pins s σ H _ I h) ?_) one rfl))
  rintro us s1 ⟨vs, H1, I1, r1, a, rfl, (⟨⟨xs, hq⟩, q⟩ | ⟨⟨xs, hq⟩, q⟩)⟩
  · cases r1 with
    | cons r rr =>
      cases rr
      cases r
      obtain ⟨its, rv, p', hz⟩ := I1.list hq
      refine call_enumerate_list p'.isList fun h' he hit hsz hk => wpAny_pyIter_enum he ?_
      have I2 : Inv X pins σ H1 { s1 with heap := h' } := I1.kept (t' := s1.toks) hk
      refine ⟨s1.heap.objs.size + 1, [s1.heap.objs.size + 1, s1.heap.objs.size], _, _, H1, rfl, I2, turn_enum a (s1.heap.objs.size + 1) s1.heap.objs.size, ⟨⟨.none, he⟩, hit, Nat.succ_ne_self _⟩, fun b hb => ?_, q⟩
      have cs : b = s1.heap.objs.size + 1 ∨ b = s1.heap.objs.size := by simpa using hb
      have hle : s1.heap.objs.size ≤ b := by
        rcases cs with z | z
        · rw [z]
          exact Nat.le_succ _
        · rw [z]
          exact Nat.le_refl _
      exact I1.fpOk hle (I1.hok.fresh hle)
  · cases r1 with
    | cons r rr =>
      cases rr
      cases r
      obtain ⟨its, rv, ht, hz⟩ := I1.tuple hq
      have ht' : s1.heap.IsTuple a its.toArray := ht
      have al : a < s1.heap.objs.size := by obtain ⟨_, e, _⟩ := ht'; exact Heap.lt_size e
      refine enum_call ht' fun h' he hit kept => wpAny_pyIter_enum he ?_
      have I2 : Inv X pins σ H1 { s1 with heap := h' } := I1.kept (t' := s1.toks) kept
      refine ⟨s1.heap.objs.size + 1, [s1.heap.objs.size + 1, s1.heap.objs.size], _, _, H1, rfl, I2, turn_enumT a (s1.heap.objs.size + 1) s1.heap.objs.size, ⟨⟨.none, he⟩, hit, Nat.succ_ne_self _, Nat.ne_of_lt al, Nat.ne_of_lt (Nat.lt_succ_of_lt al)⟩, fun b hb => ?_, q⟩
      have cs : b = s1.heap.objs.size + 1 ∨ b = s1.heap.objs.size := by simpa using hb
      have hle : s1.heap.objs.size ≤ b := by
        rcases cs with z | z
        · rw [z]
          exact Nat.le_succ _
        · rw [z]
          exact Nat.le_refl _
      exact I1.fpOk hle (I1.hok.fresh hle)
end SL
namespace DL
open PySem PySem.Spec PyProof.Rows L2 LamX PySem.W SL RZ
def enumD (xs : List D) : List D := xs.zipIdx.map fun p => D.tuk [.int (p.2 : Nat), p.1]
theorem enumD_get {xs : List D} {i : Nat} {d : D} (h : (enumD xs)[i]? = some d) : ∃ x, xs[i]? = some x ∧ d = .tuk [.int (i : Nat), x] := by
  unfold enumD at h
  rw [List.getElem?_map, List.getElem?_zipIdx] at h
  cases q : xs[i]? with
  | none => rw [q] at h; cases h
  | some x => rw [q] at h; cases h; exact ⟨x, rfl, by rw [Nat.zero_add]⟩
theorem enumD_length (xs : List D) : (enumD xs).length = xs.length := by unfold enumD; rw [List.length_map, List.length_zipIdx]
theorem okS_src {I J : DIt} {st : DSt} (e : I.src = J.src) (h : okS I st) : okS J st := by
  unfold okS at h ⊢
  rw [← e]
  exact h
section
variable {T : List (Addr × Str)} {K : Frag} {M : Pl} {H : Hp} {st : DSt} {I : DIt} {a : Addr}
theorem IsL.enum (h : IsL T K M H I a) : ItOk T K M H (Ite K a) ⟨enumD I.items, I.src⟩ := by
  refine ⟨fun M' H' st' l s ok i d e => ?_, fun M' H' st' l s ok => ?_⟩
  · obtain ⟨xs, r, q⟩ := h M' H' st' l s (okS_src rfl ok)
    obtain ⟨x, e1, rfl⟩ := enumD_get e
    obtain ⟨v, e2, rv⟩ := r.get e1
    refine ⟨⟨xs, v, q, e2⟩, fun y H'' z => ?_⟩
    obtain ⟨p, w, rfl, np, rfl, z⟩ := z
    have zz := z xs q
    rw [e2] at zz
    cases zz
    have g : Grow M' H' M' (upd H' p (.tup [.int (i : Nat), v])) := Grow.new s.hid np
    exact ⟨g, s.new np, .tuk (s.notin np) upd_same (.cons (.int _) (.cons (rv.grow g) .nil))⟩
  · obtain ⟨xs, r, q⟩ := h M' H' st' l s (okS_src rfl ok)
    exact ⟨xs, q, by rw [enumD_length, r.length]; exact Nat.le_refl _⟩
theorem IsT.enum (h : IsT T K M H I a) : ItOk T K M H (IteT K a) ⟨enumD I.items, I.src⟩ := by
  refine ⟨fun M' H' st' l s ok i d e => ?_, fun M' H' st' l s ok => ?_⟩
  · obtain ⟨xs, r, q⟩ := h M' H' st' l s (okS_src rfl ok)
    obtain ⟨x, e1, rfl⟩ := enumD_get e
    obtain ⟨v, e2, rv⟩ := r.get e1
    refine ⟨⟨xs, v, q, e2⟩, fun y H'' z => ?_⟩
    obtain ⟨p, w, rfl, np, rfl, z⟩ := z
    have zz := z xs q
    rw [e2] at zz
    cases zz
    have g : Grow M' H' M' (upd H' p (.tup [.int (i : Nat), v])) := Grow.new s.hid np
    exact ⟨g, s.new np, .tuk (s.notin np) upd_same (.cons (.int _) (.cons (rv.grow g) .nil))⟩
  · obtain ⟨xs, r, q⟩ := h M' H' st' l s (okS_src rfl ok)
    exact ⟨xs, q, by rw [enumD_length, r.length]⟩
end
def itL (st : DSt) : D → Option DIt
  | .lst ds => some ⟨ds, none⟩
  | .scr ds => some ⟨ds, none⟩
  | .ref n => match st[n]? with | some (.lst ds) => some ⟨ds, some (n, ds)⟩ | _ => none
  | _ => none
def itT : D → Option DIt
  | .tup ds => some ⟨ds, none⟩
  | .tuk ds => some ⟨ds, none⟩
  | _ => none
section
variable {T : List (Addr × Str)} {K : Frag} {M : Pl} {H : Hp} {st : DSt}
theorem itL.is {d : D} {v : V} {I : DIt} (s : RS T K M st H) (r : RV K M H d v) (e : itL st d = some I) : ∃ a, v = .ref a ∧ IsL T K M H I a ∧ okS I st := by
  cases r with
  | lst n h rs => cases e; exact ⟨_, rfl, fun M' H' st' l s ok => ⟨_, rs.later l, .inl (Rd.later l n (.inl h))⟩, .inl rfl⟩
  | scr n h rs => cases e; exact ⟨_, rfl, fun M' H' st' l s ok => ⟨_, rs.later l, .inl (Rd.later l n h)⟩, .inl rfl⟩
  | lsk h rs => cases e; exact ⟨_, rfl, fun M' H' st' l s ok => ⟨_, rs.later l, h H'⟩, .inl rfl⟩
  | ref h =>
    obtain ⟨o, e1, ro⟩ := s.atM h
    unfold itL at e
    simp only [e1] at e
    cases o with
    | lst xs =>
      cases e
      refine ⟨_, rfl, fun M' H' st' l s ok => ?_, .inr ⟨_, _, rfl, e1⟩⟩
      rcases ok with z | ⟨n', ys, z, q⟩
      · cases z
      · cases z
        obtain ⟨xs, e1, e2⟩ := s.obj _ _ _ (l.get _ _ h) q
        exact ⟨xs, e2, .inl (.inl e1)⟩
    | dK _ => cases e
    | dT _ => cases e
  | _ => cases e
theorem itT.is {d : D} {v : V} {I : DIt} (r : RV K M H d v) (e : itT d = some I) : ∃ a, v = .ref a ∧ IsT T K M H I a ∧ I.src = none := by
  cases r with
  | tup n h q rs => cases e; exact ⟨_, rfl, fun M' H' st' l s ok => ⟨_, rs.later l, .inl (.inr ⟨_, l.keep _ _ n h (fun ps z => by cases z)⟩)⟩, rfl⟩
  | tuk n h rs => cases e; exact ⟨_, rfl, fun M' H' st' l s ok => ⟨_, rs.later l, .inl (.inl (l.keep _ _ n h (fun ps z => by cases z)))⟩, rfl⟩
  | _ => cases e
end
def wEnum (fs : DTA) : DTI := fun r st R => fs r st fun ds st1 => on1 ds fun x => onO (itOf st1 x) fun I => R ⟨enumD I.items, I.src⟩ st1
def zipD (xs ys : List D) : List D := (xs.zip ys).map fun p => D.tuk [p.1, p.2]
def wZip (fs : DTA) : DTI := fun r st R => fs r st fun ds st1 => on2 ds fun x y => onO (itT x) fun I => onO (itT y) fun J => R ⟨zipD I.items J.items, none⟩ st1
section
variable {T : List (Addr × Str)} {X : Cx} {e e2 : Expr} {fs : DTA} {p pos tpos : Pos} {elts : List Expr} {kk : Nat}
theorem di_enum (hg : Gl X "enumerate") (hm : X.mg "enumerate" = none) (ha : DA T X [e] fs) (hs : starEach [e] X.env = [(false, eval e X.env)] := by rfl) : DI T X (.Tuple elts kk tpos) (.Call (.Name "enumerate" p) [e] [] pos) (wEnum fs) :=
  PI.imp (pi_enum2 hg hm ha hs) fun σ H R ⟨M, r, st, R', s, re, h, k⟩ => ⟨M, r, st, _, s, re, h, fun M1 H1 st1 ds vs g1 s1 r1 q => by
    obtain ⟨x, rfl, q1⟩ := on1.of q
    obtain ⟨I, e, q2⟩ := onO.of q1
    obtain ⟨v, rfl, rv⟩ := r1.one
    obtain ⟨a, rfl, src, ok⟩ := itOf.src s1 rv e
    rcases src.lt (T := T) with l | l
    · obtain ⟨xs, _, sq⟩ := l M1 H1 st1 (Later.refl _ _) s1 ok
      exact ⟨a, rfl, .inl ⟨⟨xs, sq⟩, k M1 H1 st1 _ _ g1 s1 q2 l.enum⟩⟩
    · obtain ⟨xs, _, sq⟩ := l M1 H1 st1 (Later.refl _ _) s1 ok
      exact ⟨a, rfl, .inr ⟨⟨xs, sq⟩, k M1 H1 st1 _ _ g1 s1 q2 l.enum⟩⟩⟩
end
end DL
namespace DL
open PySem PySem.Spec PyProof.Rows L2 LamX PySem.W SL
def compI (I : DIt) (g : DTG) (tt : DTT) (te : DTE) (r : DEnv) (Nx : List D → DSt → Prop) : List D → List D → DSt → Prop
  | [], acc, st => okI I st (Nx acc st)
  | d :: ds, acc, st => okI I st (g d r st fun r2 st2 => tt r2 st2 fun b st3 => if b = true then te r2 st3 fun y st4 => acc.length < sizeLine ∧ compI I g tt te r Nx ds (acc ++ [y]) st4 else compI I g tt te r Nx ds acc st3)
def comp2 (I : DIt) (g : DTG) (tt : DTT) (f1 : DTI) (g1 : DTG) (tt1 : DTT) (te : DTE) (r : DEnv) (vs1 : List Nat) (Q : List D → DSt → Prop) : List D → List D → DSt → Prop
  | [], acc, st => okI I st (Q acc st)
  | d :: ds, acc, st => okI I st (g d r st fun r2 st2 => tt r2 st2 fun b st3 => if b = true then f1 r2 st3 fun I1 st4 => compI I1 g1 tt1 te (wipeD r2 vs1) (comp2 I g tt f1 g1 tt1 te r vs1 Q ds) I1.items acc st4 else comp2 I g tt f1 g1 tt1 te r vs1 Q ds acc st3)
def dLc2G (f : DTI) (g : DTG) (tt : DTT) (f1 : DTI) (g1 : DTG) (tt1 : DTT) (te : DTE) (vs vs1 : List Nat) (fin : (D → DSt → Prop) → List D → DSt → Prop) : DTE := fun r st Q => f r st fun I st1 => comp2 I g tt f1 g1 tt1 te (wipeD r vs) vs1 (fin Q) I.items [] st1
def Mk (T : List (Addr × Str)) (K : Frag) (M1 : Pl) (H1 : Hp) (p : Addr) (N : Pl) (acc : List D) (st : DSt) (H : Hp) : Prop := Grow M1 H1 N H ∧ RS T K (N.hide p) st H ∧ ∃ xs, H p = some (.lst xs) ∧ RVs K (N.hide p) H acc xs
theorem Mk.go {T : List (Addr × Str)} {K : Frag} {M1 N : Pl} {H1 H H2 : Hp} {st1 st st2 : DSt} {p : Addr} {acc : List D} {M2 : Pl} (m : Mk T K M1 H1 p N acc st H) (s1 : RS T K M1 st1 H1) (np : H1 p = none) (g : Grow (N.hide p) H M2 H2) (s2 : RS T K M2 st2 H2) :
    ∃ N2, M2 = N2.hide p ∧ Mk T K M1 H1 p N2 acc st2 H2 ∧ Later (N.hide p) H (N2.hide p) H2 := by
  obtain ⟨gr, s, xs, hp, rs⟩ := m
  obtain ⟨N2, rfl⟩ := grow_hide g
  have hp2 : H2 p = some (.lst xs) := (g.hid p hidden_at).trans hp
  refine ⟨N2, rfl, ⟨?_, s2, xs, hp2, rs.grow g⟩, g.later⟩
  have z := gr.step (o := .lst xs) s1 np g
  rw [upd_self hp2] at z
  exact z
theorem Mk.push {T : List (Addr × Str)} {K : Frag} {M1 N : Pl} {H1 H : Hp} {st1 st : DSt} {p : Addr} {acc : List D} {y : D} {v : V} (m : Mk T K M1 H1 p N acc st H) (s1 : RS T K M1 st1 H1) (np : H1 p = none) (rv : RV K (N.hide p) H y v) :
    ∃ xs, H p = some (.lst xs) ∧ xs.length = acc.length ∧ Mk T K M1 H1 p N (acc ++ [y]) st (upd H p (.lst (xs ++ [v]))) ∧ Later (N.hide p) H (N.hide p) (upd H p (.lst (xs ++ [v]))) := by
  obtain ⟨gr, s, xs, hp, rs⟩ := m
  obtain ⟨s2, l⟩ := s.push (ys := xs ++ [v]) hp
  exact ⟨xs, hp, rs.length.symm, ⟨gr.step s1 np (Grow.refl _ _), s2, xs ++ [v], upd_same, (rs.later l).append (.cons (rv.later l) .nil)⟩, l⟩
theorem drop_cons {α : Type} {l ds : List α} {d : α} {i : Nat} (e : l.drop i = d :: ds) : l[i]? = some d ∧ i < l.length ∧ l.drop (i + 1) = ds := by
  have z : (l.drop i)[0]? = some d := by rw [e]; rfl
  rw [List.getElem?_drop, Nat.add_zero] at z
  refine ⟨z, (List.getElem?_eq_some_iff.mp z).1, ?_⟩
  have z : (l.drop i).drop 1 = ds := by rw [e]; rfl
  rw [List.drop_drop] at z
  exact z
theorem lift_lc2 {T : List (Addr × Str)} {K : Frag} {f f1 : DTI} {g g1 : DTG} {tt tt1 : DTT} {te : DTE} {vs vs1 : List Nat} {fin : (D → DSt → Prop) → List D → DSt → Prop} (fo : FinOk T K fin) {σ : L2.St} {H : Hp} {Q : VK} (h : lift T K (dLc2G f g tt f1 g1 tt1 te vs vs1 fin) σ H Q) :
    tLc2 (liftI T K f) (liftG T K vs g) (liftT T K tt) (liftI T K f1) (liftG T K vs1 g1) (liftT T K tt1) (lift T K te) vs vs1 σ H Q := by
  obtain ⟨M, r, st, Q', s, re, h, k⟩ := h
  refine ⟨M, r, st, _, s, re, h, fun M1 H1 st1 J I gr1 s1 q it p np => ?_⟩
  refine ⟨fun i m H' => ∃ (N : Pl) (acc : List D) (st' : DSt), Mk T K M1 H1 p N acc st' H' ∧ i ≤ I.items.length ∧ m = I.items.length - i ∧ comp2 I g tt f1 g1 tt1 te (wipeD r vs) vs1 (fin Q') (I.items.drop i) acc st', ⟨I.items.length, M1, [], st1, ⟨Grow.new s1.hid np, s1.hide np, [], upd_same, .nil⟩, Nat.zero_le _, rfl, q⟩, fun i m H' w => ?_⟩
  obtain ⟨N, acc, st', mk, le, rfl, cl⟩ := w
  have lat := mk.1.lateHide np
  have reN : RE K (N.hide p) H' (wipeD r vs) (L2.wipe σ vs) := ((re.grow gr1).wipe vs).later lat
  cases e : I.items.drop i with
  | nil =>
    rw [e] at cl
    obtain ⟨ok, q⟩ := okI.of cl
    have ei : i = I.items.length := by
      have := List.drop_eq_nil_iff.mp e
      omega
    obtain ⟨gr, s', xs, hp, rs⟩ := mk
    exact .inl ⟨by rw [ei]; exact it.stop _ H' st' lat s' ok, fo M1 N H1 H' st' p acc xs Q' Q np gr s' hp rs (k.grow gr1) q⟩
  | cons d ds =>
    rw [e] at cl
    obtain ⟨ok, q⟩ := okI.of cl
    obtain ⟨at_, lt, ds_⟩ := drop_cons e
    obtain ⟨go, yl⟩ := it.go _ H' st' lat mk.2.1 ok i d at_
    refine .inr ⟨go, fun H2 => ∃ (N2 : Pl) (acc2 : List D) (st2 : DSt), Mk T K M1 H1 p N2 acc2 st2 H2 ∧ comp2 I g tt f1 g1 tt1 te (wipeD r vs) vs1 (fin Q') ds acc2 st2,
      fun H2 ⟨N2, acc2, st2, a1, a2⟩ => ⟨I.items.length - (i + 1), by omega, N2, acc2, st2, a1, lt, rfl, by rw [ds_]; exact a2⟩, fun x H2 y => ?_⟩
    obtain ⟨g2, s2, r2⟩ := yl x H2 y
    refine ⟨_, wipeD r vs, st', d, _, s2, reN.grow g2, r2, q, fun M3 H3 σ3 r3 st3 g3 s3 re3 w3 q3 => ⟨w3.trans (wipe_wipe σ vs), M3, r3, st3, _, s3, re3, q3, fun M4 H4 st4 b g4 s4 q4 => ?_⟩⟩
    have g24 := (g2.trans g3).trans g4
    have re4 := re3.grow g4
    cases b with
    | false =>
      rw [if_neg (by decide)] at q4
      refine iteF ?_
      obtain ⟨N4, rfl, mk4, _⟩ := mk.go s1 np g24 s4
      exact ⟨N4, acc, st4, mk4, q4⟩
    | true =>
      rw [if_pos rfl] at q4
      refine iteT ?_
      refine ⟨M4, r3, st4, _, s4, re4, q4, fun M5 H5 st5 J1 I1 g5 s5 q5 it1 => ?_⟩
      obtain ⟨N5, rfl, mk5, _⟩ := mk.go s1 np (g24.trans g5) s5
      have re5 := (re4.grow g5).wipe vs1
      refine ⟨fun j kk G => ∃ (N6 : Pl) (acc6 : List D) (st6 : DSt), Mk T K M1 H1 p N6 acc6 st6 G ∧ Later (N5.hide p) H5 (N6.hide p) G ∧ (∀ a, NT H5 a → NT G a) ∧ j ≤ I1.items.length ∧ kk = I1.items.length - j ∧ compI I1 g1 tt1 te (wipeD r3 vs1) (comp2 I g tt f1 g1 tt1 te (wipeD r vs) vs1 (fin Q') ds) (I1.items.drop j) acc6 st6,
        ⟨I1.items.length, N5, acc, st5, mk5, Later.refl _ _, fun _ h => h, Nat.zero_le _, rfl, q5⟩, fun j kk G w => ?_⟩
      obtain ⟨N6, acc6, st6, mk6, l6, nt6, le6, rfl, cl6⟩ := w
      have re6 : RE K (N6.hide p) G (wipeD r3 vs1) (L2.wipe σ3 vs1) := re5.later l6
      cases e6 : I1.items.drop j with
      | nil =>
        rw [e6] at cl6
        obtain ⟨ok6, q6⟩ := okI.of cl6
        have ej : j = I1.items.length := by
          have := List.drop_eq_nil_iff.mp e6
          omega
        exact .inl ⟨by rw [ej]; exact it1.stop _ G st6 l6 mk6.2.1 ok6, N6, acc6, st6, mk6, q6⟩
      | cons d1 ds1 =>
        rw [e6] at cl6
        obtain ⟨ok6, q6⟩ := okI.of cl6
        obtain ⟨at6, lt6, ds6⟩ := drop_cons e6
        obtain ⟨go6, yl6⟩ := it1.go _ G st6 l6 mk6.2.1 ok6 j d1 at6
        refine .inr ⟨go6, fun G2 => ∃ (N7 : Pl) (acc7 : List D) (st7 : DSt), Mk T K M1 H1 p N7 acc7 st7 G2 ∧ Later (N5.hide p) H5 (N7.hide p) G2 ∧ (∀ a, NT H5 a → NT G2 a) ∧ compI I1 g1 tt1 te (wipeD r3 vs1) (comp2 I g tt f1 g1 tt1 te (wipeD r vs) vs1 (fin Q') ds) ds1 acc7 st7,
          fun G2 ⟨N7, acc7, st7, a1, a2, a3, a4⟩ => ⟨I1.items.length - (j + 1), by omega, N7, acc7, st7, a1, a2, a3, lt6, rfl, by rw [ds6]; exact a4⟩, fun x1 G2 y1 => ?_⟩
        obtain ⟨g7, s7, r7⟩ := yl6 x1 G2 y1
        refine ⟨_, wipeD r3 vs1, st6, d1, _, s7, re6.grow g7, r7, q6, fun M8 H8 σ8 r8 st8 g8 s8 re8 w8 q8 => ⟨w8.trans (wipe_wipe σ3 vs1), M8, r8, st8, _, s8, re8, q8, fun M9 H9 st9 b9 g9 s9 q9 => ?_⟩⟩
        have g79 := (g7.trans g8).trans g9
        cases b9 with
        | false =>
          rw [if_neg (by decide)] at q9
          refine iteF ?_
          obtain ⟨N9, rfl, mk9, l9⟩ := mk6.go s1 np g79 s9
          exact ⟨N9, acc6, st9, mk9, l6.trans l9 nt6, fun a h => g79.there a (nt6 a h), q9⟩
        | true =>
          rw [if_pos rfl] at q9
          refine iteT ?_
          refine ⟨M9, r8, st9, _, s9, re8.grow g9, q9, fun Ma Ha sta z vz ga sa ra qa => ?_⟩
          have g7a := g79.trans ga
          obtain ⟨Na, rfl, mka, la⟩ := mk6.go s1 np g7a sa
          obtain ⟨xs, hp, lx, mkb, lb⟩ := mka.push s1 np ra
          have nta : ∀ a, NT H5 a → NT Ha a := fun a h => g7a.there a (nt6 a h)
          refine ⟨xs, hp, by rw [lx]; exact qa.1, Na, acc6 ++ [z], sta, mkb, (l6.trans la nt6).trans lb nta, fun a h => ?_, qa.2⟩
          by_cases zz : a = p
          · rw [zz]; exact ⟨_, upd_same, fun ps w => by cases w⟩
          · exact (nta a h).upd zz
section
variable {T : List (Addr × Str)} {X : Cx} {elt tg iter tg1 iter1 : Expr} {ifs ifs1 : List Expr} {scope : Scope} {own : List (Str × Nat)} {vs1 : List Nat} {pos : Pos} {f f1 : DTI} {g g1 : DTG} {tt tt1 : DTT} {te : DTE}
theorem de_lc2G {fin : (D → DSt → Prop) → List D → DSt → Prop} (fo : FinOk T X.K fin) (hc : X.calm = true) (hN : X.N.Nodup) (hi : DI T X tg iter f) (ok : BlkOk X.N X.env.scope scope own) (hv : ∀ i ∈ vs1, i ∈ own.map (·.2))
    (hg : ∀ (s : Shared) (H : Hp) (C : Addr) (cl : List (Str × Addr)) (fp : List Addr), DG T (X.blk s H scope (compEnvC scope cl C X.env) fp) (own.map (·.2)) tg g) (ht : ∀ (s : Shared) (H : Hp) (C : Addr) (cl : List (Str × Addr)) (fp : List Addr), DTs T (X.blk s H scope (compEnvC scope cl C X.env) fp) ifs tt)
    (hi1 : ∀ (s : Shared) (H : Hp) (C : Addr) (cl : List (Str × Addr)) (fp : List Addr), DI T (X.blk s H scope (compEnvC scope cl C X.env) fp) tg1 iter1 f1)
    (hg1 : ∀ (s : Shared) (H : Hp) (C : Addr) (cl : List (Str × Addr)) (fp : List Addr), DG T (X.blk s H scope (compEnvC scope cl C X.env) fp) vs1 tg1 g1) (ht1 : ∀ (s : Shared) (H : Hp) (C : Addr) (cl : List (Str × Addr)) (fp : List Addr), DTs T (X.blk s H scope (compEnvC scope cl C X.env) fp) ifs1 tt1)
    (he : ∀ (s : Shared) (H : Hp) (C : Addr) (cl : List (Str × Addr)) (fp : List Addr), DE T (X.blk s H scope (compEnvC scope cl C X.env) fp) elt te) (hs : ∀ x, foldedSetIterable iter X.env x = pure x := by intro _; rfl) (hs1 : ∀ (env : Env) x, foldedSetIterable iter1 env x = pure x := by intro _ _; rfl) :
    DE T X (.ListComp elt [⟨tg, iter, ifs, 0⟩, ⟨tg1, iter1, ifs1, 0⟩] scope pos) (dLc2G f g tt f1 g1 tt1 te (own.map (·.2)) vs1 fin) :=
  PE.imp (pe_lc2 hc hN hi ok hv hg ht hi1 hg1 ht1 he hs hs1) fun _ _ _ h => lift_lc2 fo h
end
end DL
namespace DL
open PySem PySem.Spec PyProof.Rows L2 LamX PySem.W SL
theorem de_sortR {fin : DK → List D → DSt → Prop} (fo : fin = finT ∨ fin = finN) {X : Cx} {T : List (Addr × Str)} {e body : Expr} {fe : DTE} {fb : DPE} {x : Str} {params : Arguments} {scope : Scope} {k : Nat} {c Pt : Addr} {p1 p2 p3 p4 p5 pos : Pos} (calm : X.calm = true) (g1 : Gl X "sorted") (m1 : X.mg "sorted" = none) (g2 : Gl X "range") (m2 : X.mg "range" = none)
    (ha : DE T X e fe) (TB : TabB X.base X.mg c Pt) (hcode : X.env.code = .ref c) (hT : (Pt, X.env.qual ++ "<lambda>") ∈ T) (hu : ∀ p ∈ T, p.1 = Pt → p.2 = X.env.qual ++ "<lambda>") (room : Room (k + 3) X.A) (L : LamP X.env.scope scope x) (nx : x ∉ X.N) (hdef : defaultsOf params X.env = ([], []))
    (hbind : ∀ (q : Str) (cl : List (Str × Addr)) (pm cv ctv u : Value), bindArgs (kla_fn "<lambda>" q params body scope cl pm cv ctv) ⟨[u], []⟩ = pure [(x, u)])
    (hbody : ∀ (A : Around) (s : Shared) (H : Hp) (f c' : Addr), Room k (A.deeper (lamEnv X scope s.heap.objs.size f c')) → DP T (cxP X A s H scope x f c') body fb)
    (na : starEach [e] X.env = (false, eval e X.env) :: starEach [] X.env := by rfl)
    (he : backTo pos (starEach [.Call (.Name "range" p2) [e] [] p3] X.env) = (false, eval (.Call (.Name "range" p2) [e] [] p3) X.env) :: backTo pos (starEach [] X.env) := by rfl) :
    DE T X (.Call (.Name "sorted" p1) [.Call (.Name "range" p2) [e] [] p3] [⟨some "key", .Lambda params body scope p4, p5⟩] pos) (dSortR fin fe fb) :=
  PE.imp (pe_sortKey calm g1 m1 g2 m2 ha TB hcode hT hu room L nx hdef hbind hbody na) fun _ _ _ h => lift_sortR fo h

section
variable {P : Program} {w : World} {K : Frag} {mg : Str → Option Value} {base : Heap} {T : List (Addr × Str)}
theorem fnG_code {x qual : Str} {st : Stmt} {f : Addr} {fd : FuncData} {N ps : List Str} {k : Nat} {sp : Sp}
    (F : Fun K x qual st f fd) (sc : FnScope N ps (defScope st)) (size : ∀ vs H Q E, sp vs H Q E → vs.length = ps.length)
    (body : ∀ (A : Around) (outer : List Env) (s : Shared) (H : Hp) (vs : List V) (Q : VK) (E : XK),
      A.guards = some [] → Room k (A.deeper (envOfC qual (defScope st) s.heap.objs.size f fd.code)) → sp vs H Q E →
      ∃ t, PSs (cxOf CX0 P w K mg base N qual (defScope st) f fd.code A outer s H E).nox (defBody st) t ∧
        t { nx := fun _ H' => Q .non H', rt := Q } (start N vs) H) : FnG P w K mg base (k + 1) f fd ps sp := by
  obtain ⟨oc, od, kV, doc, pm, an, cdv, ct, osl, rfl, look, code⟩ := F.ex
  constructor
  · exact size
  · intro A outer s H args us vs Q E hgd room env bound rel prom
    have many := size _ _ _ _ prom
    have inK : K.In s.heap := env.mod.kin.keeps fun b o q => (env.bs b o q).1
    have free : s.heap.NoLimit := env.mod.nolimit.keeps fun b o q => (env.bs b o q).1
    refine codeAny_call_function room.depth (inK _ _ look) rfl sc.co sc.gen rfl (PySem.W.codeRec_of inK code)
      (bound _ _ _ _ ?_)
    refine wpAny_newFunctionEnv_cells sc.kind ?kinds fun env' same s1 fresh => ?_
    case kinds =>
      rintro ⟨n, v⟩ here
      rcases sc.par n (List.of_mem_zip here).1 with q | q
      · exact Or.inl q
      · exact Or.inr ⟨q, PySem.W.cellsFrom_some _ _ _ (Or.inl q)⟩
    subst same
    refine ⟨free.keeps fresh.toInCall.keep, codeAny_func ?_⟩
    obtain ⟨t, der, reading⟩ := body A outer s H vs Q E hgd (room.deeper _) prom
    have I := inv_start (CX := CX0) (E := E) sc room.hd env many rel fresh
    refine wpAny_mono (der.nox.run [] s1 (start N vs) H _ I reading) (fun fl s' e => ?_) fun _ _ e => e
    cases fl with
    | ret u => obtain ⟨v, σ', H', J, r', q⟩ := e; exact ⟨v, H', J.os, J.bare, J.base, J.hok, r', q⟩
    | next => obtain ⟨σ', H', J, q⟩ := e; exact ⟨.non, H', J.os, J.bare, J.base, J.hok, rfl, q⟩
    | brk => obtain ⟨_, _, _, q⟩ := e; exact False.elim q
    | cont => obtain ⟨_, _, _, q⟩ := e; exact False.elim q
theorem fnD_code {x qual : Str} {st : Stmt} {f : Addr} {fd : FuncData} {N ps : List Str} {k : Nat} {g : DRs} {F' : DTS} (F : Fun K x qual st f fd) (sc : FnScope N ps (defScope st)) (ar : ∀ ds st Q, g ds st Q → ds.length = ps.length)
    (body : ∀ (A : Around) (outer : List Env) (s : Shared) (H : Hp) (E : XK), A.guards = some [] → Room k (A.deeper (envOfC qual (defScope st) s.heap.objs.size f fd.code)) → DSs T (cxOf CX0 P w K mg base N qual (defScope st) f fd.code A outer s H E).nox (defBody st) F')
    (sem : ∀ ds st Q, g ds st Q → F' { nx := fun _ st' => Rt st Q .non st', rt := Rt st Q } (startD N.length ds) st) : FnD P w K mg base T (k + 1) f fd ps g := by
  refine ⟨fnG_code F sc (fun vs H Q E h => h.1) (fun A outer s H vs Q E gd room h => ⟨_, body A outer s H E gd room, ?_⟩), ar⟩
  obtain ⟨_, M, st', ds, Q', rs, rv, hg, kn⟩ := h
  refine ⟨M, startD N.length ds, st', _, rs, RE.start rv N, sem ds st' Q' hg, ?_⟩
  exact ⟨fun M1 H1 σ1 r1 st1 g1 s1 re1 q => Rt.sound q rs kn g1 s1 .non, fun M1 H1 st1 d v g1 s1 r1 q => Rt.sound q rs kn g1 s1 r1, fun _ _ _ _ _ _ _ _ q => q.elim, fun _ _ _ _ _ _ _ _ q => q.elim⟩
theorem _root_.L2.Fun.bindsK {x qual : Str} {st : Stmt} {f : Addr} {fd : FuncData} {s : Shared} {args : Args} {bs : List (Str × Value)} (F : Fun K x qual st f fd)
    (h : ∀ (kV doc pm : Value) (an : Option Addr) (cdv ct : Value), bindArgs (PySem.W.fnOf x qual (defArgs st) (defBody st) (defScope st) .none kV doc pm an cdv ct) args = pure bs) : BindsTo s fd args bs := by
  obtain ⟨oc, od, kV, doc, pm, an, cdv, ct, osl, rfl, lk, hcd⟩ := F.ex
  exact .of_eq (h kV doc pm an cdv ct)
theorem _root_.L2.Fun.one {x qual x' qual' : Str} {st st' : Stmt} {f : Addr} {fd fd' : FuncData} (F : Fun K x qual st f fd) (G : Fun K x' qual' st' f fd') : fd = fd' := by
  obtain ⟨_, _, _, _, _, _, _, _, _, _, l1, _⟩ := F.ex
  obtain ⟨_, _, _, _, _, _, _, _, _, _, l2, _⟩ := G.ex
  rw [l1] at l2
  cases l2
  rfl
def Scr (ns : List Int) (x : D) : Prop := x = .scr (ns.map D.int)
theorem Scr.seq {ns : List Int} {x : D} (h : Scr ns x) (st : DSt) : seqS st x = some (ns.map D.int) := by rw [show x = _ from h]; rfl
theorem law_start {cs : List (Addr × Addr)} {H : Hp} {a : Addr} {ns : List Int} {g : DRs} (hT : ∀ p ∈ T, ∃ q ∈ cs, q.2 = p.1) (em : ∀ p ∈ cs, H p.2 = some (.tbl #[])) (hS : SqL K H a (ns.map V.int)) (h : ∀ x, Scr ns x → g [x] [] fun d _ => d = .bl true) :
    spD T K 1 g [.ref a] H (fun v _ => v = .bl true) E0 := by
  obtain ⟨x, hx, rx⟩ : ∃ x, Scr ns x ∧ RV K ⟨0, []⟩ H x (.ref a) := by
    rcases hS with hS | hS
    · exact ⟨_, rfl, .scr (by simp) hS (RVs.of_ints ns)⟩
    · exact ⟨_, rfl, .lsk (fun G => .inr hS) (RVs.of_ints ns)⟩
  refine ⟨rfl, ⟨0, []⟩, [], [x], _, ⟨rfl, List.nodup_nil, fun n a o e => by simp [Pl.at_] at e, fun p hp => ?_, fun a ha => by simp at ha⟩, .cons rx .nil, h x hx, fun M' H' st' d v g s r q => ?_⟩
  · obtain ⟨q, hq, e⟩ := hT p hp
    have z := TabS.nil (q := p.2) (em q hq)
    rw [e] at z
    exact z
  · subst q
    cases r
    rfl
end
end DL
namespace DL
open PySem PySem.Spec PyProof.Rows L2 LamX PySem.W SL
section
variable {T : List (Addr × Str)} {X : Cx} {a b c e : Expr} {es : List Expr} {fa fb fc f : DTE} {fs : DTA} {pos p : Pos} {K : Frag}
def dIsB : DR2 := fun x y st Q => onB x fun a => onB y fun b => Q (.bl (decide (a = b))) st
def dNotB : DR2 := fun x y st Q => onB x fun a => onB y fun b => Q (.bl (!decide (a = b))) st
def truD (st : DSt) : D → Option Bool
  | .bl b => some b
  | .non => some false
  | .int i => some (i != 0)
  | .tup xs => some (!xs.isEmpty)
  | .tuk xs => some (!xs.isEmpty)
  | .lst xs => some (!xs.isEmpty)
  | .scr xs => some (!xs.isEmpty)
  | .ref n => match st[n]? with | some (.lst xs) => some (!xs.isEmpty) | some (.dK kvs) => some (!kvs.isEmpty) | _ => none
  | _ => none
def dTruth (f : DTE) : DTT := fun r st Q => f r st fun x st1 => onO (truD st1 x) fun c => Q c st1
end
end DL
namespace DL
open PySem PySem.Spec PyProof.Rows L2 LamX PySem.W SL
section
variable {prog : Program} {w : World} {A : Around} {E : Value → Shared → Prop} {s : Shared} {l : Addr} {its : List Value} {ns : List Int} {Q : Value → Shared → Prop}
theorem tup_fp {vs : Array Value} (hl : s.heap.IsTuple l vs) (o : Obj) : l < s.heap.objs.size ∧ ∀ b ∈ [s.heap.objs.size, l], b < (s.heap.push o).objs.size := by
  have hlt : l < s.heap.objs.size := by obtain ⟨_, e, _⟩ := hl; exact Heap.lt_size e
  refine ⟨hlt, fun b hb => ?_⟩
  rw [Heap.size_push]
  rcases List.mem_cons.mp hb with rfl | hb
  · exact Nat.lt_succ_self _
  · rcases List.mem_cons.mp hb with rfl | hb
    · exact Nat.lt_succ_of_lt hlt
    · cases hb
theorem old_keptT {o : Obj} {h' : Heap} (hk : ∀ b u, b ∉ [s.heap.objs.size] → (s.heap.push o).get? b = some u → h'.get? b = some u) : ∀ b u, s.heap.get? b = some u → h'.get? b = some u := fun b u e =>
  hk b u (fun z => by rw [List.mem_singleton] at z; subst z; exact Nat.lt_irrefl _ (Heap.lt_size e)) (Heap.get?_push_of_some _ e)
theorem sum_rawT (hh : A.handled = none) (hl : s.heap.IsTuple l its.toArray) (hi : IntsAre its ns)
    (h : ∀ h' tk t', (∀ b o, s.heap.get? b = some o → h'.get? b = some o) → Q (.int ns.sum t') { s with heap := h', toks := tk }) : wpAny (model prog w) A (call (.builtin "sum") [.ref l]) Q E s := by
  obtain ⟨xs, e⟩ := hi.allInts.items
  have hn : numsOf (intItems xs).toList = ns := by rw [← e]; exact hi.numsOf
  rw [nums_intItems] at hn
  rw [e] at hl
  obtain ⟨hlt, fp⟩ := tup_fp hl { cls := .type "tuple_iterator", data := .fields #[.ref l, .int 0 0] }
  refine call_sum_walkG (wpAny_pyIter_tuple hl ?_)
  refine ⟨s.heap.objs.size, [s.heap.objs.size, l], [s.heap.objs.size], _, _, _, numAt xs, rfl, Walks.tuple (A := A.in1) hh _ l (Nat.ne_of_lt hlt) (intItems xs), ⟨⟨_, Heap.get?_push_size _ rfl, rfl, rfl⟩, hl.push _⟩, fp, fun _ _ => intItems_at, fun h' tk t' hk => ?_⟩
  have := h h' tk t' (old_keptT hk)
  have e2 : (intItems xs).size = xs.size := by simp [intItems]
  rw [e2, preSum_eq, List.take_of_length_le (by simp), hn]
  exact this
theorem max_rawT (hh : A.handled = none) (hl : s.heap.IsTuple l its.toArray) (hi : IntsAre its ns) (hne : 0 < ns.length)
    (h : ∀ h' tk M t', (∀ b o, s.heap.get? b = some o → h'.get? b = some o) → M ∈ ns → (∀ a, a ∈ ns → a ≤ M) → Q (.int M t') { s with heap := h', toks := tk }) : wpAny (model prog w) A (call (.builtin "max") [.ref l]) Q E s := by
  obtain ⟨xs, e⟩ := hi.allInts.items
  have hn : numsOf (intItems xs).toList = ns := by rw [← e]; exact hi.numsOf
  rw [nums_intItems] at hn
  subst hn
  rw [e] at hl
  have hsz : 0 < xs.size := by simpa using hne
  obtain ⟨hlt, fp⟩ := tup_fp hl { cls := .type "tuple_iterator", data := .fields #[.ref l, .int 0 0] }
  refine call_max_walk (wpAny_pyIter_tuple hl ?_)
  refine ⟨s.heap.objs.size, [s.heap.objs.size, l], [s.heap.objs.size], _, _, _, _, rfl, Walks.tuple (A := A.in1) hh _ l (Nat.ne_of_lt hlt) (intItems xs), ⟨⟨_, Heap.get?_push_size _ rfl, rfl, rfl⟩, hl.push _⟩, fp, by simpa [intItems] using hsz, CmpOf.ints_gt (numAt xs) (fun _ _ => intItems_at), fun v h' tk hv hk => ?_⟩
  have hv' : (intItems xs)[argBest (fun i j => decide (numAt xs i > numAt xs j)) (xs.size - 1)]? = some v := by simpa [intItems] using hv
  obtain ⟨t, rfl⟩ := intItems_at hv'
  obtain ⟨h1, h2⟩ := argBest_gt (numAt xs) (xs.size - 1)
  refine h h' tk _ t (old_keptT hk) ?_ fun a ha => ?_
  · rw [numAt_eq]; exact PySem.getD_mem (by rw [List.length_map, Array.length_toList]; omega)
  · obtain ⟨j, hj, rfl⟩ := mem_getD ha
    rw [List.length_map, Array.length_toList] at hj
    rw [← numAt_eq]; exact h2 j (by omega)
end
section
variable {X : Cx} {T : List (Addr × Str)} {K : Frag}
def rSum2 (K : Frag) : List V → Hp → VK → Prop := fun vs H Q => ∃ (a : Addr) (ns : List Int), vs = [V.ref a] ∧ (SqL K H a (ns.map V.int) ∨ SqT K H a (ns.map V.int)) ∧ Q (.int ns.sum) H
theorem cr_sum2 (hc : X.calm = true) : CallR X (.builtin "sum") (rSum2 X.K) := by
  intro pins s σ H vs us Q I r h
  obtain ⟨a, ns, rfl, hs, q⟩ := h
  rw [Vals.ref1 r]
  rcases hs with hs | hs
  · obtain ⟨its, rv, hl, _⟩ := I.list hs
    exact sum_raw (I.ok.hd hc) hl.isList rv.ints fun h' tk t' hk => ⟨.int _, H, I.kept hk, ⟨_, rfl⟩, q⟩
  · obtain ⟨its, rv, hl, _⟩ := I.tuple hs
    exact sum_rawT (I.ok.hd hc) hl rv.ints fun h' tk t' hk => ⟨.int _, H, I.kept hk, ⟨_, rfl⟩, q⟩
def rMax2' (K : Frag) : List V → Hp → VK → Prop := fun vs H Q => ∃ (a : Addr) (ns : List Int), vs = [V.ref a] ∧ (SqL K H a (ns.map V.int) ∨ SqT K H a (ns.map V.int)) ∧ 0 < ns.length ∧ ∀ m, m ∈ ns → (∀ y, y ∈ ns → y ≤ m) → Q (.int m) H
theorem cr_max2' (hc : X.calm = true) : CallR X (.builtin "max") (rMax2' X.K) := by
  intro pins s σ H vs us Q I r h
  obtain ⟨a, ns, rfl, hs, hne, q⟩ := h
  rw [Vals.ref1 r]
  rcases hs with hs | hs
  · obtain ⟨its, rv, hl, _⟩ := I.list hs
    exact max_raw (I.ok.hd hc) hl.isList rv.ints hne fun h' tk m t' hk h1 h2 => ⟨.int _, H, I.kept hk, ⟨_, rfl⟩, q m h1 h2⟩
  · obtain ⟨its, rv, hl, _⟩ := I.tuple hs
    exact max_rawT (I.ok.hd hc) hl rv.ints hne fun h' tk m t' hk h1 h2 => ⟨.int _, H, I.kept hk, ⟨_, rfl⟩, q m h1 h2⟩
def onNs (st : DSt) (x : D) (k : List Int → Prop) : Prop := onO (seqS st x) fun xs => onO (intsD xs) k
theorem onNs.of {st : DSt} {x : D} {k : List Int → Prop} (h : onNs st x k) : ∃ ns, seqS st x = some (ns.map D.int) ∧ k ns := by
  obtain ⟨xs, e, h⟩ := onO.of h
  obtain ⟨ns, e2, h⟩ := onO.of h
  exact ⟨ns, by rw [e, intsD_of e2], h⟩
def dSum : DRs := fun ds st Q => on1 ds fun x => onNs st x fun ns => Q (.int ns.sum) st
theorem callD_sum : CallD T K (rSum2 K) dSum := by
  intro M H st ds vs Q' Q s r h k
  obtain ⟨x, rfl, h⟩ := on1.of h
  obtain ⟨ns, e, h⟩ := onNs.of h
  obtain ⟨v, rfl, rv⟩ := r.one
  obtain ⟨p, ys, rfl, sq, rs⟩ := seqS.rd s rv e
  have z := rs.ints
  subst z
  exact ⟨p, ns, rfl, sq, k.here s (.int _) h⟩
def dMaxL : DRs := fun ds st Q => on1 ds fun x => onNs st x fun ns => 0 < ns.length ∧ ∀ m, m ∈ ns → (∀ y, y ∈ ns → y ≤ m) → Q (.int m) st
theorem callD_maxL : CallD T K (rMax2' K) dMaxL := by
  intro M H st ds vs Q' Q s r h k
  obtain ⟨x, rfl, h⟩ := on1.of h
  obtain ⟨ns, e, l, h⟩ := onNs.of h
  obtain ⟨v, rfl, rv⟩ := r.one
  obtain ⟨p, ys, rfl, sq, rs⟩ := seqS.rd s rv e
  have z := rs.ints
  subst z
  exact ⟨p, ns, rfl, sq, l, fun m h1 h2 => k.here s (.int _) (h m h1 h2)⟩
def dMinL : DRs := fun ds st Q => on1 ds fun x => onNs st x fun ns => 0 < ns.length ∧ ∀ m, m ∈ ns → (∀ y, y ∈ ns → m ≤ y) → Q (.int m) st
def dInt : DRs := fun ds st Q => on1 ds fun x => match x with
  | .int i => Q (.int i) st
  | .bl b => Q (.int (if b then 1 else 0)) st
  | _ => False
end
end DL
namespace DL
open PySem PySem.Spec PyProof.Rows L2 LamX PySem.W SL
theorem ints_reads {h : Heap} : ∀ {its : List Value} {ns : List Int}, IntsAre its ns → ∃ as, ReadsAll h its (ns.map PyData.int) as
  | _, _, .nil => ⟨_, .nil⟩
  | _, _, .cons n t r => by
    obtain ⟨as, e⟩ := ints_reads (h := h) r
    exact ⟨_, .cons (.int n t) e⟩
theorem ints_alike (ns : List Int) : AlikeAll (ns.map PyData.int) := by
  refine ⟨fun x hx y hy => ?_, fun x hx => ?_⟩
  · obtain ⟨a, _, rfl⟩ := List.mem_map.mp hx
    obtain ⟨b, _, rfl⟩ := List.mem_map.mp hy
    rfl
  · obtain ⟨a, _, rfl⟩ := List.mem_map.mp hx
    intro z
    cases z
theorem ints_depth : ∀ ns : List Int, PyData.depthAll (ns.map PyData.int) = 0
  | [] => by simp [PyData.depthAll]
  | n :: ns => by simp [PyData.depthAll, PyData.depth, ints_depth ns]
theorem fmax_spec : ∀ (ns : List Int) (n : Int), (ns.foldl max n ∈ n :: ns) ∧ ∀ y ∈ n :: ns, y ≤ ns.foldl max n
  | [], n => ⟨by simp, by simp⟩
  | k :: r, n => by
    obtain ⟨h1, h2⟩ := fmax_spec r (max n k)
    rw [List.foldl_cons]
    constructor
    · rcases List.mem_cons.mp h1 with z | z
      · rw [z]
        rcases Int.le_total n k with w | w
        · rw [Int.max_eq_right w]; simp
        · rw [Int.max_eq_left w]; simp
      · exact List.mem_cons_of_mem _ (List.mem_cons_of_mem _ z)
    · intro y hy
      have m := h2 (max n k) List.mem_cons_self
      rcases List.mem_cons.mp hy with z | z
      · subst z; exact Int.le_trans (Int.le_max_left _ _) m
      · rcases List.mem_cons.mp z with z | z
        · subst z; exact Int.le_trans (Int.le_max_right _ _) m
        · exact h2 y (List.mem_cons_of_mem _ z)
section
variable {X : Cx} {T : List (Addr × Str)} {K : Frag}
def rMaxDef (K : Frag) : List V → List V → Hp → VK → Prop := fun vs zs H Q => ∃ (a : Addr) (ns : List Int) (d : V), vs = [V.ref a] ∧ zs = [d] ∧ (SqL K H a (ns.map V.int) ∨ SqT K H a (ns.map V.int)) ∧
  (ns = [] → Q d H) ∧ ∀ m, m ∈ ns → (∀ y, y ∈ ns → y ≤ m) → Q (.int m) H
theorem cr_maxDef (hu : X.A.units + 1 < cLine) (hc : X.calm = true) : CallRK X (.builtin "max") ["default"] (rMaxDef X.K) := by
  intro pins s σ H vs zs us ws Q I r r2 h
  obtain ⟨a, ns, d, rfl, rfl, hs, q0, q1⟩ := h
  rw [Vals.ref1 r]
  obtain ⟨u, rfl, ru⟩ := r2.one
  show wpAny _ _ (call (.builtin "max") [.ref a] [(Str.ofString "default", u)]) _ _ _
  have fin : ∀ (its : List Value), Vals (ns.map V.int) its → ∀ (y : PyData) (ys : List PyData) (i : Nat) (v : Value) (h' : Heap) (tk : Tok) (bs : List Addr), ns.map PyData.int = y :: ys → its.toArray[i]? = some v → Reads h' v (maxD y ys) bs →
      (∀ b o, s.heap.get? b = some o → h'.get? b = some o) → EP X pins σ Q v { s with heap := h', toks := tk } := by
    intro its rv y ys i v h' tk bs e hv rd hk
    cases ns with
    | nil => cases e
    | cons n ns =>
      cases e
      rw [maxD_ints] at rd
      cases rd
      obtain ⟨m1, m2⟩ := fmax_spec ns n
      exact ⟨.int _, H, I.kept hk, ⟨_, rfl⟩, q1 _ m1 m2⟩
  rcases hs with hs | hs
  · obtain ⟨its, rv, hl, _⟩ := I.list hs
    obtain ⟨as, rd⟩ := ints_reads (h := s.heap) rv.ints
    refine max_list_default (I.ok.hd hc) hl.isList (by simpa using rd) (ints_alike ns) (by rw [ints_depth]; exact hu) (fun e h' tk hk => ?_) (fin its rv)
    exact ⟨d, H, I.kept hk, ru, q0 (by cases ns with | nil => rfl | cons _ _ => cases e)⟩
  · obtain ⟨its, rv, hl, _⟩ := I.tuple hs
    obtain ⟨as, rd⟩ := ints_reads (h := s.heap) rv.ints
    refine max_tuple_default (I.ok.hd hc) hl (by simpa using rd) (ints_alike ns) (by rw [ints_depth]; exact hu) (fun e h' tk hk => ?_) (fin its rv)
    exact ⟨d, H, I.kept hk, ru, q0 (by cases ns with | nil => rfl | cons _ _ => cases e)⟩
def dMaxDef (fs : DTE) (fd : DTE) : DTE := fun r st Q => fs r st fun x st1 => fd r st1 fun d st2 => onNs st2 x fun ns => (ns = [] → Q d st2) ∧ ∀ m, m ∈ ns → (∀ y, y ∈ ns → y ≤ m) → Q (.int m) st2
theorem de_maxDef {a b : Expr} {fa fb : DTE} {p pos kpos : Pos} (hu : X.A.units + 1 < cLine) (hc : X.calm = true) (hg : Gl X "max") (hm : X.mg "max" = none) (ha : DE T X a fa) (hb : DE T X b fb)
    (hs : starEach [a] X.env = (false, eval a X.env) :: starEach [] X.env := by rfl)
    (he : backTo pos (starEach [a] X.env) = (false, eval a X.env) :: backTo pos (starEach [] X.env) := by rfl) (hpl : (backTo pos (starEach [a] X.env)).any (·.1) = false := by rfl)
    (hall : (backToKw pos (keywordEach [⟨some "default", b, kpos⟩] X.env)).all (·.1.isSome) = true := by rfl) (hnone : (backToKw pos (keywordEach [⟨some "default", b, kpos⟩] X.env)).any (·.1.isNone) = false := by rfl) (hks : (backToKw pos (keywordEach [⟨some "default", b, kpos⟩] X.env)).filterMap (·.1) = [("default" : Str)] := by rfl) :
    DE T X (.Call (.Name "max" p) [a] [⟨some "default", b, kpos⟩] pos) (dMaxDef fa fb) :=
  PE.imp (pe_callBK (cr_maxDef hu hc) hg hm (by decide +kernel) (da_cons ha da_nil hs) (dk_cons hb dk_nil) (by decide) (by decide) he hpl hall hnone hks) fun σ H Q ⟨M, r, st, Q', s, re, h, k⟩ => by
    refine ⟨M, r, st, fun ds st1 => on1 ds fun x => fb r st1 fun d st2 => onNs st2 x fun ns => (ns = [] → Q' d st2) ∧ ∀ m, m ∈ ns → (∀ y, y ∈ ns → y ≤ m) → Q' (.int m) st2, s, re, h, fun M1 H1 st1 ds vs g1 s1 r1 h1 => ?_⟩
    obtain ⟨x, rfl, h1⟩ := on1.of h1
    obtain ⟨v, rfl, rv⟩ := r1.one
    refine ⟨M1, r, st1, fun ds st2 => on1 ds fun d => onNs st2 x fun ns => (ns = [] → Q' d st2) ∧ ∀ m, m ∈ ns → (∀ y, y ∈ ns → y ≤ m) → Q' (.int m) st2, s1, re.grow g1, h1, fun M2 H2 st2 ds2 vs2 g2 s2 r2 h2 => ?_⟩
    obtain ⟨d, rfl, h2⟩ := on1.of h2
    obtain ⟨u, rfl, ru⟩ := r2.one
    obtain ⟨ns, e, q0, q1⟩ := onNs.of h2
    obtain ⟨p, ys, rfl, sq, rs⟩ := seqS.rd s2 (rv.grow g2) e
    have z := rs.ints
    subst z
    have k2 := (k.grow g1).grow g2
    exact ⟨p, ns, u, rfl, rfl, sq, fun e => k2.here s2 ru (q0 e), fun m h1 h2 => k2.here s2 (.int _) (q1 m h1 h2)⟩
end
end DL
namespace DL
open PySem PySem.Spec PyProof.Rows L2 LamX PySem.W SL
end DL
namespace DL
open PySem PySem.Spec PyProof.Rows L2 LamX PySem.W SL
def keyD : D → Option Key
  | .int i => some (.inl i)
  | .str x => some (.inr x)
  | _ => none
theorem RV.key {K : Frag} {M : Pl} {H : Hp} {d : D} {v : V} {k : Key} (r : RV K M H d v) (h : keyD d = some k) : v = kV k := by
  cases r <;> first | (cases h; rfl) | cases h
def valD {κ : Type} [DecidableEq κ] (kvs : List (κ × D)) (k : κ) : Option D := (kvs.find? fun kv => decide (kv.1 = k)).map (·.2)
def putD {κ : Type} [DecidableEq κ] (kvs : List (κ × D)) (k : κ) (v : D) : List (κ × D) :=
  if (kvs.any fun kv => decide (kv.1 = k)) = true then kvs.map (fun kv => if kv.1 = k then (kv.1, v) else kv) else kvs ++ [(k, v)]
structure KVs {κ : Type} (K : Frag) (M : Pl) (H : Hp) (kvs : List (κ × D)) (ys : List (κ × V)) : Prop where
  ks : kvs.map (·.1) = ys.map (·.1)
  vs : RVs K M H (kvs.map (·.2)) (ys.map (·.2))
section
variable {κ : Type} [DecidableEq κ] {K : Frag} {M : Pl} {H : Hp}
theorem KVs.nil : KVs K M H ([] : List (κ × D)) [] := ⟨rfl, .nil⟩
theorem KVs.cons {k : κ} {d : D} {v : V} {kvs : List (κ × D)} {ys : List (κ × V)} (h : RV K M H d v) (t : KVs K M H kvs ys) : KVs K M H ((k, d) :: kvs) ((k, v) :: ys) := ⟨by rw [List.map_cons, List.map_cons, t.ks], .cons h t.vs⟩
theorem KVs.un {k : κ} {d : D} {kvs : List (κ × D)} {ys : List (κ × V)} (h : KVs K M H ((k, d) :: kvs) ys) : ∃ v zs, ys = (k, v) :: zs ∧ RV K M H d v ∧ KVs K M H kvs zs := by
  obtain ⟨h1, h2⟩ := h
  cases ys with
  | nil => cases h1
  | cons y zs =>
    obtain ⟨k', v⟩ := y
    rw [List.map_cons, List.map_cons] at h1 h2
    cases h2 with
    | cons a b =>
      have e := List.cons.inj h1
      cases e.1
      exact ⟨v, zs, rfl, a, e.2, b⟩
theorem KVs.grow {M' : Pl} {H' : Hp} {kvs : List (κ × D)} {ys : List (κ × V)} (h : KVs K M H kvs ys) (g : Grow M H M' H') : KVs K M' H' kvs ys := ⟨h.ks, h.vs.grow g⟩
theorem KVs.length {kvs : List (κ × D)} {ys : List (κ × V)} (h : KVs K M H kvs ys) : kvs.length = ys.length := by
  have := congrArg List.length h.ks
  rw [List.length_map, List.length_map] at this
  exact this
theorem KVs.any {k : κ} : ∀ {kvs : List (κ × D)} {ys : List (κ × V)}, KVs K M H kvs ys → (kvs.any fun kv => decide (kv.1 = k)) = (ys.any fun kv => decide (kv.1 = k))
  | [], ys, h => by
    have : ys = [] := by cases ys with | nil => rfl | cons _ _ => cases h.ks
    subst this
    rfl
  | (k', d) :: kvs, ys, h => by
    obtain ⟨v, zs, rfl, rv, t⟩ := h.un
    rw [List.any_cons, List.any_cons, KVs.any t]
theorem KVs.app {k : κ} {d : D} {v : V} (h : RV K M H d v) : ∀ {kvs : List (κ × D)} {ys : List (κ × V)}, KVs K M H kvs ys → KVs K M H (kvs ++ [(k, d)]) (ys ++ [(k, v)])
  | [], ys, t => by
    have : ys = [] := by cases ys with | nil => rfl | cons _ _ => cases t.ks
    subst this
    exact .cons h .nil
  | (k', d') :: kvs, ys, t => by
    obtain ⟨v', zs, rfl, rv, t'⟩ := t.un
    exact .cons rv (KVs.app h t')
theorem KVs.upd {k : κ} {d : D} {v : V} (h : RV K M H d v) : ∀ {kvs : List (κ × D)} {ys : List (κ × V)}, KVs K M H kvs ys → KVs K M H (kvs.map fun kv => if kv.1 = k then (kv.1, d) else kv) (ys.map fun kv => if kv.1 = k then (kv.1, v) else kv)
  | [], ys, t => by
    have : ys = [] := by cases ys with | nil => rfl | cons _ _ => cases t.ks
    subst this
    exact .nil
  | (k', d') :: kvs, ys, t => by
    obtain ⟨v', zs, rfl, rv, t'⟩ := t.un
    rw [List.map_cons, List.map_cons]
    by_cases e : k' = k
    · rw [if_pos e, if_pos e]; exact .cons h (KVs.upd h t')
    · rw [if_neg e, if_neg e]; exact .cons rv (KVs.upd h t')
theorem KVs.put {k : κ} {d : D} {v : V} {kvs : List (κ × D)} {ys : List (κ × V)} (h : RV K M H d v) (t : KVs K M H kvs ys) : KVs K M H (putD kvs k d) (putK ys k v) := by
  unfold putD putK
  rw [t.any (k := k)]
  split
  · exact t.upd h
  · exact t.app h
end
def onDk (st : DSt) (x : D) (k : Nat → List (Key × D) → Prop) : Prop := match x with
  | .ref n => match st[n]? with | some (.dK kvs) => k n kvs | _ => False
  | _ => False
theorem onDk.of {st : DSt} {d : D} {k : Nat → List (Key × D) → Prop} (h : onDk st d k) : ∃ n kvs, d = .ref n ∧ st[n]? = some (.dK kvs) ∧ k n kvs := by
  cases d with
  | ref n =>
    unfold onDk at h
    simp only at h
    split at h
    · rename_i kvs e
      exact ⟨n, kvs, rfl, e, h⟩
    · exact h.elim
  | _ => exact h.elim
section
variable {T : List (Addr × Str)} {X : Cx} {K : Frag} {a b o i : Expr} {fa fb fo fi fv : DTE} {pos : Pos}
theorem onDk.rd {M : Pl} {H : Hp} {st : DSt} {n : Nat} {kvs : List (Key × D)} {v : V} (s : RS T K M st H) (r : RV K M H (.ref n) v) (e : st[n]? = some (.dK kvs)) : ∃ a ys, v = .ref a ∧ M.at_ n = some a ∧ H a = some (.dK ys) ∧ KVs K M H kvs ys := by
  cases r with
  | ref hm =>
    obtain ⟨ys, e1, e2, e3⟩ := s.obj n _ _ hm e
    exact ⟨_, ys, rfl, hm, e1, ⟨e2, e3⟩⟩
def dNewK : DTE := fun _ st Q => Q (.ref st.length) (st ++ [.dK []])
def dGetK : DR2 := fun x y st Q => onDk st x fun n kvs => onO (keyD y) fun k => onO (valD kvs k) fun d => Q d st
def dInK (neg : Bool) (fy fd : DTE) : DTE := fun r st Q => fy r st fun y st1 => fd r st1 fun x st2 => onDk st2 x fun n kvs => onO (keyD y) fun k => Q (.bl (if neg then !(valD kvs k).isSome else (valD kvs k).isSome)) st2
def sPutK (fd fy fv : DTE) : DTS := fun E r st => fv r st fun v st1 => fd r st1 fun x st2 => fy r st2 fun y st3 => onDk st3 x fun n kvs => onO (keyD y) fun k => kvs.length < sizeLine ∧ E.nx r (st3.set n (.dK (putD kvs k v)))
def dLenK : DRs := fun ds st Q => on1 ds fun x => onDk st x fun n kvs => Q (.int kvs.length) st
end
end DL
namespace DL
open PySem PySem.Spec PyProof.Rows L2 LamX PySem.W SL
section
variable {T : List (Addr × Str)} {X : Cx} {K : Frag} {a b o i : Expr} {fa fb fo fi fv : DTE} {pos : Pos}
def sAug (i : Nat) (g : Int → Int → Int) (f : DTE) : DTS := fun E r st => onOO r[i]? fun x => f r st fun y st1 => onI x fun m => onI y fun n => E.nx (r.set i (some (.int (g m n)))) st1
def on3 (ds : List D) (k : D → D → D → Prop) : Prop := match ds with | [x, y, z] => k x y z | _ => False
theorem on3.of {ds : List D} {k : D → D → D → Prop} (h : on3 ds k) : ∃ x y z, ds = [x, y, z] ∧ k x y z := by
  match ds, h with
  | [x, y, z], h => exact ⟨x, y, z, rfl, h⟩
  | [], h => exact h.elim
  | [_], h => exact h.elim
  | [_, _], h => exact h.elim
  | _ :: _ :: _ :: _ :: _, h => exact h.elim
def sPar3 (i j l : Nat) (f : DTA) : DTS := fun E r st => f r st fun ds st1 => on3 ds fun d e g => E.nx (((r.set i (some d)).set j (some e)).set l (some g)) st1
def mCount : D → List D → DSt → DK → Prop := fun x ds st Q => on1 ds fun y => onI y fun k => onO (lstS st x) fun xs => onO (intsD xs) fun ns => Q (.int (ns.count k : Nat)) st
theorem mtD_count : MtD T K (rCntI K) mCount := by
  intro M H st x ds v vs Q' Q s rx rs h k
  obtain ⟨y, rfl, h1⟩ := on1.of h
  obtain ⟨i, rfl, h2⟩ := onI.of h1
  obtain ⟨xs, e1, h3⟩ := onO.of h2
  obtain ⟨ns, e2, h4⟩ := onO.of h3
  obtain ⟨w, rfl, rw'⟩ := rs.one
  cases rw'
  have e2 := intsD_of e2
  subst e2
  obtain ⟨p, us, rfl, rd, ru⟩ := lstS.rd s rx e1
  have z := ru.ints
  subst z
  exact ⟨p, ns, i, rfl, rfl, .inl (.inl rd), k.here s (.int _) h4⟩
end
end DL
namespace SL
open PySem PySem.Spec PyProof.Rows L2 LamX PySem.W PySem.Calls
section
variable {P : Program} {w : World} {A : Around} {E : Value → Shared → Prop} {s : Shared} {a fa : Addr} {Q : Value → Shared → Prop} {kz : List PyData} {its : List Value} {o : Obj} {n : Nat} {T : String}
end
end SL
namespace DL
open PySem PySem.Spec PyProof.Rows L2 LamX PySem.W SL
end DL
namespace DL
open PySem PySem.Spec PyProof.Rows L2 LamX PySem.W SL
section
variable {r : DEnv} {st : DSt} {Q : DK} {E : DEnds} {f fa fb fc : DTE} {fs : DTA} {t u : DTT} {F G : DTS} {x y : D} {i j : Int} {R2' : DR2} {Rs : DRs} {i' j' : Nat}
@[simp] theorem e_var : dVar i' r st Q = onOO r[i']? fun d => Q d st := rfl
@[simp] theorem e_C : dC x r st Q = Q x st := rfl
@[simp] theorem e_op : dOp R2' fa fb r st Q = fa r st fun x st1 => fb r st1 fun y st2 => R2' x y st2 Q := rfl
@[simp] theorem e_neg : dNeg f r st Q = f r st fun x st1 => onI x fun i => Q (.int (-i)) st1 := rfl
@[simp] theorem e_isN : dIsN f r st Q = f r st fun x st1 => Q (.bl (isNon x)) st1 := rfl
@[simp] theorem e_notN : dNotN f r st Q = f r st fun x st1 => Q (.bl (!isNon x)) st1 := rfl
@[simp] theorem e_and : dAndV fa fb r st Q = fa r st fun x st1 => onB x fun c => if c = true then fb r st1 Q else Q (.bl false) st1 := rfl
@[simp] theorem e_or : dOrV fa fb r st Q = fa r st fun x st1 => onB x fun c => if c = true then Q (.bl true) st1 else fb r st1 Q := rfl
@[simp] theorem e_not : dNotV f r st Q = f r st fun x st1 => onB x fun c => Q (.bl (!c)) st1 := rfl
@[simp] theorem e_test {Qb : Bool → DSt → Prop} : dTest f r st Qb = f r st fun x st1 => onB x fun c => Qb c st1 := rfl
@[simp] theorem e_tAnd {Qb : Bool → DSt → Prop} : dtAnd t u r st Qb = t r st fun c st1 => if c = true then u r st1 Qb else Qb false st1 := rfl
@[simp] theorem e_tOr {Qb : Bool → DSt → Prop} : dtOr t u r st Qb = t r st fun c st1 => if c = true then Qb true st1 else u r st1 Qb := rfl
@[simp] theorem e_tNot {Qb : Bool → DSt → Prop} : dtNot t r st Qb = t r st fun c st1 => Qb (!c) st1 := rfl
@[simp] theorem e_tYes {Qb : Bool → DSt → Prop} : dtYes r st Qb = Qb true st := rfl
@[simp] theorem e_if : dIf t fa fb r st Q = t r st fun c st1 => if c = true then fa r st1 Q else fb r st1 Q := rfl
@[simp] theorem e_aNil {Qa : List D → DSt → Prop} : daNil r st Qa = Qa [] st := rfl
@[simp] theorem e_aCons {Qa : List D → DSt → Prop} : daCons f fs r st Qa = f r st fun d st1 => fs r st1 fun ds st2 => Qa (d :: ds) st2 := rfl
@[simp] theorem e_tup : dTup fs r st Q = fs r st fun ds st1 => okLen ds (Q (.tup ds) st1) := rfl
@[simp] theorem e_lst : dLst fs r st Q = fs r st fun ds st1 => okLen ds (Q (.lst ds) st1) := rfl
@[simp] theorem e_lstN : dLstN fs r st Q = fs r st fun ds st1 => okLen ds (Q (.ref st1.length) (st1 ++ [.lst ds])) := rfl
@[simp] theorem e_len0 {P : Prop} : okLen [] P = P := rfl
@[simp] theorem e_len1 {P : Prop} {a : D} : okLen [a] P = P := rfl
@[simp] theorem e_len2 {P : Prop} {a b : D} : okLen [a, b] P = P := rfl
@[simp] theorem e_len3 {P : Prop} {a b c : D} : okLen [a, b, c] P = P := rfl
@[simp] theorem e_len4 {P : Prop} {a b c d : D} : okLen [a, b, c, d] P = P := rfl
@[simp] theorem e_len5 {P : Prop} {a b c d e : D} : okLen [a, b, c, d, e] P = P := rfl
@[simp] theorem e_cb : dCB Rs fs r st Q = fs r st fun ds st1 => Rs ds st1 Q := rfl
@[simp] theorem e_on1 {k : D → Prop} {a : D} : on1 [a] k = k a := rfl
@[simp] theorem e_on2 {k : D → D → Prop} {a b : D} : on2 [a, b] k = k a b := rfl
@[simp] theorem e_onI {k : Int → Prop} : onI (.int i) k = k i := rfl
@[simp] theorem e_onB {k : Bool → Prop} {b : Bool} : onB (.bl b) k = k b := rfl
@[simp] theorem e_onO {α : Type} {k : α → Prop} {b : α} : onO (some b) k = k b := rfl
@[simp] theorem e_onO0 {α : Type} {k : α → Prop} : onO none k = False := rfl
@[simp] theorem e_onOO {k : D → Prop} {b : D} : onOO (some (some b)) k = k b := rfl
@[simp] theorem e_I0 {g : Int → Int → D} : dI0 g x y st Q = onI x fun i => onI y fun j => Q (g i j) st := rfl
@[simp] theorem e_I {C : Int → Int → Prop} {g : Int → Int → D} : dI C g x y st Q = onI x fun i => onI y fun j => C i j ∧ Q (g i j) st := rfl
@[simp] theorem e_add {fin : DK → List D → DSt → Prop} : dAddG fin (.int i) (.int j) st Q = Q (.int (i + j)) st := rfl
@[simp] theorem e_addT {fin : DK → List D → DSt → Prop} {xs ys : List D} : dAddG fin (.tup xs) (.tup ys) st Q = (xs.length + ys.length ≤ sizeLine ∧ Q (.tup (xs ++ ys)) st) := rfl
@[simp] theorem e_addS {fin : DK → List D → DSt → Prop} {a b : Str} : dAddG fin (.str a) (.str b) st Q = (a.length + b.length ≤ sizeLine ∧ Q (.str (a ++ b)) st) := rfl
@[simp] theorem e_addL {fin : DK → List D → DSt → Prop} {xs ys : List D} : dAddG fin (.lst xs) (.lst ys) st Q = (xs.length + ys.length ≤ sizeLine ∧ fin Q (xs ++ ys) st) := rfl
@[simp] theorem e_addLR {fin : DK → List D → DSt → Prop} {xs : List D} {n : Nat} : dAddG fin (.lst xs) (.ref n) st Q = onO (lstS st (.ref n)) fun ys => xs.length + ys.length ≤ sizeLine ∧ fin Q (xs ++ ys) st := rfl
@[simp] theorem e_addRL {fin : DK → List D → DSt → Prop} {ys : List D} {n : Nat} : dAddG fin (.ref n) (.lst ys) st Q = onO (lstS st (.ref n)) fun xs => xs.length + ys.length ≤ sizeLine ∧ fin Q (xs ++ ys) st := rfl
@[simp] theorem e_addRR {fin : DK → List D → DSt → Prop} {m n : Nat} : dAddG fin (.ref m) (.ref n) st Q = onO (lstS st (.ref m)) fun xs => onO (lstS st (.ref n)) fun ys => xs.length + ys.length ≤ sizeLine ∧ fin Q (xs ++ ys) st := rfl
@[simp] theorem e_mul {fin : DK → List D → DSt → Prop} : dMulG fin (.int i) (.int j) st Q = (CMul i j ∧ Q (.int (i * j)) st) := rfl
@[simp] theorem e_mulL {fin : DK → List D → DSt → Prop} {xs : List D} : dMulG fin (.lst xs) (.int i) st Q = ((-1000 ≤ i ∧ xs.length * i.toNat ≤ 1000 ∧ i ≤ 100000000) ∧ fin Q (List.replicate i.toNat xs).flatten st) := rfl
@[simp] theorem e_mulT {fin : DK → List D → DSt → Prop} {xs : List D} : dMulG fin (.tup xs) (.int i) st Q = (xs ≠ [] ∧ 1 ≤ i ∧ i ≤ 1000 ∧ xs.length ≤ 1000 ∧ Q (.tup (List.replicate i.toNat xs).flatten) st) := rfl
@[simp] theorem e_rev : dRev f r st Q = f r st fun x st1 => dRevV x st1 Q := rfl
@[simp] theorem e_revT {xs : List D} : dRevV (.tup xs) st Q = Q (.tup xs.reverse) st := rfl
@[simp] theorem e_ix : dIx x y st Q = onO (seqS st x) fun ds => onI y fun i => onO (atI ds i) fun d => Q d st := rfl
@[simp] theorem e_eqI : dEqG false (.int i) (.int j) st Q = Q (.bl (decide (i = j))) st := rfl
@[simp] theorem e_eqS {a b : Str} : dEqG false (.str a) (.str b) st Q = Q (.bl (decide (a = b))) st := rfl
@[simp] theorem e_eqB {a b : Bool} : dEqG false (.bl a) (.bl b) st Q = Q (.bl (decide (a = b))) st := rfl
@[simp] theorem e_neI : dEqG true (.int i) (.int j) st Q = Q (.bl (!decide (i = j))) st := rfl
@[simp] theorem e_neS {a b : Str} : dEqG true (.str a) (.str b) st Q = Q (.bl (!decide (a = b))) st := rfl
@[simp] theorem e_neB {a b : Bool} : dEqG true (.bl a) (.bl b) st Q = Q (.bl (!decide (a = b))) st := rfl
@[simp] theorem e_ltI : dLtG (.int i) (.int j) st Q = Q (.bl (decide (i < j))) st := rfl
@[simp] theorem e_in : dInG false x y st Q = onO (seqS st y) fun ds => (flatD x = true ∧ ds.all flatD = true) ∧ Q (.bl (ds.any fun y => eqF y x)) st := rfl
@[simp] theorem e_nin : dInG true x y st Q = onO (seqS st y) fun ds => (flatD x = true ∧ ds.all flatD = true) ∧ Q (.bl (!(ds.any fun y => eqF y x))) st := rfl
@[simp] theorem e_chain {a b : DR2} : dChain a b fa fb fc r st Q = fa r st fun x st1 => fb r st1 fun y st2 => a x y st2 fun z st3 => onB z fun k => if k = true then fc r st3 fun w st4 => b y w st4 Q else Q (.bl false) st3 := rfl
@[simp] theorem e_len : dLen [x] st Q = onO (seqS st x) fun xs => Q (.int xs.length) st := rfl
@[simp] theorem e_abs : dAbs [.int i] st Q = Q (.int (if i < 0 then -i else i)) st := rfl
@[simp] theorem e_2I {g : Int → Int → Int} : d2I g [.int i, .int j] st Q = Q (.int (g i j)) st := rfl
@[simp] theorem e_tuple1 {xs : List D} : dTuple [.tup xs] st Q = Q (.tup xs) st := rfl
@[simp] theorem e_tuple2 {xs : List D} : dTuple [.lst xs] st Q = Q (.tup xs) st := rfl
@[simp] theorem e_tuple3 {n : Nat} : dTuple [.ref n] st Q = onO (seqS st (.ref n)) fun xs => Q (.tup xs) st := rfl
@[simp] theorem e_listT : dListT [x] st Q = onO (seqS st x) fun xs => Q (.lst xs) st := rfl
@[simp] theorem e_listN : dListN [x] st Q = onO (seqS st x) fun xs => Q (.ref st.length) (st ++ [.lst xs]) := rfl
@[simp] theorem e_allR {g : List Bool → Bool} {xs : List D} : dAllR g [.lst xs] st Q = onO (boolsD xs) fun bs => Q (.bl (g bs)) st := rfl
@[simp] theorem e_seqT {xs : List D} : seqS st (.tup xs) = some xs := rfl
@[simp] theorem e_seqK {xs : List D} : seqS st (.tuk xs) = some xs := rfl
@[simp] theorem e_seqL {xs : List D} : seqS st (.lst xs) = some xs := rfl
theorem seq_ref {n : Nat} {xs : List D} (h : st[n]? = some (.lst xs)) : seqS st (.ref n) = some xs := by unfold seqS; simp only [h]
@[simp] theorem e_repr : dRepr [x] st Q = onO (pdS st x) fun p => (p.showable = true ∧ p.depth ≤ 50 ∧ p.shown.length ≤ sizeLine) ∧ Q (.str p.shown) st := rfl
@[simp] theorem e_isi {u : String} : dIsi u f r st Q = f r st fun x st1 => onO (tyN st1 x) fun t => Q (.bl (subTy t u)) st1 := rfl
@[simp] theorem e_isB {a b : Bool} : dIsB (.bl a) (.bl b) st Q = Q (.bl (decide (a = b))) st := rfl
@[simp] theorem e_notB {a b : Bool} : dNotB (.bl a) (.bl b) st Q = Q (.bl (!decide (a = b))) st := rfl
@[simp] theorem e_truth {Qb : Bool → DSt → Prop} : dTruth f r st Qb = f r st fun x st1 => onO (truD st1 x) fun c => Qb c st1 := rfl
@[simp] theorem e_next : sNext E r st = E.nx r st := rfl
@[simp] theorem e_seq : sSeq F G E r st = F { E with nx := G E } r st := rfl
@[simp] theorem e_drop : sDrop f E r st = f r st fun _ st1 => E.nx r st1 := rfl
@[simp] theorem e_ret : sRet f E r st = f r st E.rt := rfl
@[simp] theorem e_retN : sRetN E r st = E.rt .non st := rfl
@[simp] theorem e_ifS : sIf t F G E r st = t r st fun b st1 => if b = true then F E r st1 else G E r st1 := rfl
@[simp] theorem e_set : sSet i' f E r st = f r st fun d st1 => E.nx (r.set i' (some d)) st1 := rfl
@[simp] theorem e_asg {g : DTG} : sAsg f g E r st = f r st fun d st1 => g d r st1 E.nx := rfl
@[simp] theorem e_par : sPar i' j' fs E r st = fs r st fun ds st1 => on2 ds fun d e => E.nx ((r.set i' (some d)).set j' (some e)) st1 := rfl
@[simp] theorem e_nm {k : DEnv → DSt → Prop} : gNm i' x r st k = k (r.set i' (some x)) st := rfl
@[simp] theorem e_gsN {k : DEnv → DSt → Prop} : gsNil [] r st k = k r st := rfl
@[simp] theorem e_gsC {k : DEnv → DSt → Prop} {g : DTG} {h : DTGs} {ds : List D} : gsCons g h (x :: ds) r st k = g x r st fun r1 st1 => h ds r1 st1 k := rfl
@[simp] theorem e_gTpK {k : DEnv → DSt → Prop} {h : DTGs} {ds : List D} : gTp i' h (.tuk ds) r st k = (ds.length = i' ∧ h ds r st k) := rfl
@[simp] theorem e_gTpL {k : DEnv → DSt → Prop} {h : DTGs} {ds : List D} : gTp i' h (.lst ds) r st k = (ds.length = i' ∧ h ds r st k) := rfl
@[simp] theorem e_sum : dSum [x] st Q = onO (seqS st x) fun xs => onO (intsD xs) fun ns => Q (.int ns.sum) st := rfl
@[simp] theorem e_maxL : dMaxL [x] st Q = onO (seqS st x) fun xs => onO (intsD xs) fun ns => 0 < ns.length ∧ ∀ m, m ∈ ns → (∀ y, y ∈ ns → y ≤ m) → Q (.int m) st := rfl
@[simp] theorem e_minL : dMinL [x] st Q = onO (seqS st x) fun xs => onO (intsD xs) fun ns => 0 < ns.length ∧ ∀ m, m ∈ ns → (∀ y, y ∈ ns → m ≤ y) → Q (.int m) st := rfl
@[simp] theorem e_maxDef : dMaxDef fa fb r st Q = fa r st fun x st1 => fb r st1 fun d st2 => onO (seqS st2 x) fun xs => onO (intsD xs) fun ns => (ns = [] → Q d st2) ∧ ∀ m, m ∈ ns → (∀ y, y ∈ ns → y ≤ m) → Q (.int m) st2 := rfl
@[simp] theorem e_int : dInt [.int i] st Q = Q (.int i) st := rfl
@[simp] theorem e_intB {b : Bool} : dInt [.bl b] st Q = Q (.int (if b then 1 else 0)) st := rfl
@[simp] theorem e_aug {g : Int → Int → Int} : sAug i' g f E r st = onOO r[i']? fun x => f r st fun y st1 => onI x fun m => onI y fun n => E.nx (r.set i' (some (.int (g m n)))) st1 := rfl
@[simp] theorem e_on3 {k : D → D → D → Prop} {a b c : D} : on3 [a, b, c] k = k a b c := rfl
@[simp] theorem e_par3 {l' : Nat} : sPar3 i' j' l' fs E r st = fs r st fun ds st1 => on3 ds fun d e g => E.nx (((r.set i' (some d)).set j' (some e)).set l' (some g)) st1 := rfl
@[simp] theorem e_newK : dNewK r st Q = Q (.ref st.length) (st ++ [.dK []]) := rfl
@[simp] theorem e_getK : dGetK x y st Q = onDk st x fun n kvs => onO (keyD y) fun k => onO (valD kvs k) fun d => Q d st := rfl
@[simp] theorem e_keyI : keyD (.int i) = some (.inl i) := rfl
@[simp] theorem e_keyS {a : Str} : keyD (.str a) = some (.inr a) := rfl
@[simp] theorem e_inK : dInK false fa fb r st Q = fa r st fun y st1 => fb r st1 fun x st2 => onDk st2 x fun n kvs => onO (keyD y) fun k => Q (.bl (valD kvs k).isSome) st2 := rfl
@[simp] theorem e_ninK : dInK true fa fb r st Q = fa r st fun y st1 => fb r st1 fun x st2 => onDk st2 x fun n kvs => onO (keyD y) fun k => Q (.bl (!(valD kvs k).isSome)) st2 := rfl
@[simp] theorem e_putK : sPutK fa fb fc E r st = fc r st fun v st1 => fa r st1 fun x st2 => fb r st2 fun y st3 => onDk st3 x fun n kvs => onO (keyD y) fun k => kvs.length < sizeLine ∧ E.nx r (st3.set n (.dK (putD kvs k v))) := rfl
@[simp] theorem e_lenK : dLenK [x] st Q = onDk st x fun n kvs => Q (.int kvs.length) st := rfl
@[simp] theorem e_lstS {xs : List D} : lstS st (.lst xs) = some xs := rfl
@[simp] theorem e_seqX {xs : List D} : seqS st (.scr xs) = some xs := rfl
@[simp] theorem e_gTpT {k : DEnv → DSt → Prop} {h : DTGs} {ds : List D} : gTp i' h (.tup ds) r st k = (ds.length = i' ∧ h ds r st k) := rfl
@[simp] theorem e_oN {k : Option Int → DSt → Prop} : oNone r st k = k none st := rfl
@[simp] theorem e_oS {k : Option Int → DSt → Prop} : oSome f r st k = f r st fun d st1 => onI d fun i => k (some i) st1 := rfl
@[simp] theorem e_sl {fin : DK → List D → DSt → Prop} {lo hi : DTO} : dSlG fin f lo hi r st Q = f r st fun x st1 => lo r st1 fun l st2 => hi r st2 fun u st3 => dSlV fin x l u st3 Q := rfl
@[simp] theorem e_slT {fin : DK → List D → DSt → Prop} {lo hi : Option Int} {xs : List D} : dSlV fin (.tup xs) lo hi st Q = Q (.tup (cutD xs lo hi)) st := rfl
@[simp] theorem e_slL {fin : DK → List D → DSt → Prop} {lo hi : Option Int} {xs : List D} : dSlV fin (.lst xs) lo hi st Q = fin Q (cutD xs lo hi) st := rfl
@[simp] theorem e_finT {xs : List D} : finT Q xs st = Q (.lst xs) st := rfl
@[simp] theorem e_finN {xs : List D} : finN Q xs st = Q (.ref st.length) (st ++ [.lst xs]) := rfl
@[simp] theorem e_index : dIndex f fs r st Q = f r st fun x st1 => IdxD st1 x ∧ fs r st1 fun ds st2 => mIndex x ds st2 Q := rfl
@[simp] theorem e_idxT {xs : List D} : IdxD st (.tup xs) = True := rfl
@[simp] theorem e_idxL {xs : List D} : IdxD st (.lst xs) = True := rfl
@[simp] theorem e_mIx : mIndex x [.int i] st Q = onO (ixS st x) fun xs => onO (intsD xs) fun ns => onO (ixOf i ns) fun j => Q (.int (j : Nat)) st := rfl
@[simp] theorem e_ixST {xs : List D} : ixS st (.tup xs) = some xs := rfl
@[simp] theorem e_ixSL {xs : List D} : ixS st (.lst xs) = some xs := rfl
@[simp] theorem e_mtL {m : D → List D → DSt → DK → Prop} : dMtL m f fs r st Q = f r st fun x st1 => LstD st1 x ∧ fs r st1 fun ds st2 => m x ds st2 Q := rfl
@[simp] theorem e_w {k : DIt → DSt → Prop} : wSeq f r st k = f r st fun d st1 => onO (itOf st1 d) fun I => k I st1 := rfl
@[simp] theorem e_w1 {k : DIt → DSt → Prop} : wRng1 fs r st k = fs r st fun ds st1 => on1 ds fun x => onI x fun j => (-(2 ^ 62) ≤ j ∧ j < 2 ^ 62) ∧ k ⟨rgD 0 j.toNat, none⟩ st1 := rfl
@[simp] theorem e_w2 {k : DIt → DSt → Prop} : wRng2 fs r st k = fs r st fun ds st1 => on2 ds fun x y => onI x fun i => onI y fun j => (-(2 ^ 62) ≤ i ∧ i < 2 ^ 62 ∧ -(2 ^ 62) ≤ j ∧ j < 2 ^ 62) ∧ k ⟨rgD i (j - i).toNat, none⟩ st1 := rfl
@[simp] theorem e_wE {k : DIt → DSt → Prop} : wEnum fs r st k = fs r st fun ds st1 => on1 ds fun x => onO (itOf st1 x) fun I => k ⟨enumD I.items, I.src⟩ st1 := rfl
@[simp] theorem e_wZ {k : DIt → DSt → Prop} : wZip fs r st k = fs r st fun ds st1 => on2 ds fun x y => onO (itT x) fun I => onO (itT y) fun J => k ⟨zipD I.items J.items, none⟩ st1 := rfl
@[simp] theorem e_itK {xs : List D} : itOf st (.tuk xs) = some ⟨xs, none⟩ := rfl
@[simp] theorem e_itT {xs : List D} : itOf st (.tup xs) = some ⟨xs, none⟩ := rfl
@[simp] theorem e_itL {xs : List D} : itOf st (.lst xs) = some ⟨xs, none⟩ := rfl
@[simp] theorem e_itT2 {xs : List D} : itT (.tup xs) = some ⟨xs, none⟩ := rfl
@[simp] theorem e_itL2 {xs : List D} : itL st (.lst xs) = some ⟨xs, none⟩ := rfl
@[simp] theorem e_lc {w : DTI} {g : DTG} {vs : List Nat} {fin : DK → List D → DSt → Prop} : dLcG w g t f vs fin r st Q = w r st fun I st1 => I.items.length ≤ sizeLine ∧ compL I g t f (wipeD r vs) (fin Q) I.items [] st1 := rfl
@[simp] theorem e_for {w : DTI} {g : DTG} : sFor w g F E r st = w r st fun I st1 => forL I g F E st1 I.items r st1 := rfl
@[simp] theorem e_wipe0 : wipeD r [] = r := rfl
@[simp] theorem e_wipe {v : Nat} {vs : List Nat} : wipeD r (v :: vs) = (wipeD r vs).set v none := rfl
@[simp] theorem e_okI {xs : List D} {P : Prop} : okI ⟨xs, none⟩ st P = P := rfl
@[simp] theorem e_okR {xs ys : List D} {n : Nat} {P : Prop} : okI ⟨xs, some (n, ys)⟩ st P = (st[n]? = some (.lst ys) ∧ P) := rfl
end
def Ev (f : DTE) (r : DEnv) (st : DSt) (d : D) : Prop := ∀ Q : DK, Q d st → f r st Q
def EvT (t : DTT) (r : DEnv) (st : DSt) (b : Bool) : Prop := ∀ Q : Bool → DSt → Prop, Q b st → t r st Q
theorem compL_map {g : DTG} {tt : DTT} {te : DTE} {r : DEnv} {Q : List D → DSt → Prop} {st : DSt} {xs : List D} (p : D → Bool) (h : D → D) :
    ∀ (items acc : List D), (∀ d ∈ items, ∀ Q' : DEnv → DSt → Prop, (∀ r2, EvT tt r2 st (p d) → (p d = true → Ev te r2 st (h d)) → Q' r2 st) → g d r st Q') → Q (acc ++ (items.filter p).map h) st → compL ⟨xs, none⟩ g tt te r Q items acc st
  | [], acc, _, q => by
    have q' : Q acc st := by simpa using q
    exact q'
  | d :: ds, acc, hh, q => by
    show g d r st _
    refine hh d List.mem_cons_self _ fun r2 e1 e2 => e1 _ ?_
    cases e : p d with
    | true =>
      refine iteT (e2 e _ (compL_map p h ds _ (fun d' hd => hh d' (List.mem_cons_of_mem _ hd)) ?_))
      rw [List.filter_cons_of_pos e, List.map_cons] at q
      simpa using q
    | false =>
      refine iteF (compL_map p h ds _ (fun d' hd => hh d' (List.mem_cons_of_mem _ hd)) ?_)
      rw [List.filter_cons_of_neg (by rw [e]; decide)] at q
      exact q
theorem lc_map {te : DTE} {r : DEnv} {Q : List D → DSt → Prop} {st : DSt} {xs items : List D} {i : Nat} (h : D → D) (he : ∀ d ∈ items, Ev te (r.set i (some d)) st (h d)) (q : Q (items.map h) st) : compL ⟨xs, none⟩ (gNm i) dtYes te r Q items [] st := by
  refine compL_map (fun _ => true) h items [] (fun d hd Q' k => k _ (fun Q q => q) fun _ => he d hd) ?_
  rw [List.filter_eq_self.mpr (fun _ _ => rfl)]
  simpa using q
theorem lc_if {tt : DTT} {te : DTE} {r : DEnv} {Q : List D → DSt → Prop} {st : DSt} {xs items : List D} {i : Nat} (p : D → Bool) (h : D → D) (ht : ∀ d ∈ items, EvT tt (r.set i (some d)) st (p d)) (he : ∀ d ∈ items, p d = true → Ev te (r.set i (some d)) st (h d)) (q : Q ((items.filter p).map h) st) : compL ⟨xs, none⟩ (gNm i) tt te r Q items [] st :=
  compL_map p h items [] (fun d hd Q' k => k _ (ht d hd) (he d hd)) (by simpa using q)
theorem rgD_mem {lo : Int} {n : Nat} {d : D} (h : d ∈ rgD lo n) : ∃ i : Nat, i < n ∧ d = .int (lo + (i : Nat)) := by
  obtain ⟨i, hi⟩ := List.mem_iff_getElem?.mp h
  obtain ⟨lt, e⟩ := rgD_get hi
  exact ⟨i, lt, e⟩
theorem rgD0 (n : Nat) : rgD 0 n = (List.range n).map fun i => D.int (i : Nat) := by
  unfold rgD
  exact List.map_congr_left fun i _ => by rw [Int.zero_add]
theorem lc_rng {te : DTE} {r : DEnv} {Q : List D → DSt → Prop} {st : DSt} {xs : List D} {n i : Nat} (h : Nat → D) (he : ∀ k : Nat, k < n → Ev te (r.set i (some (.int (k : Nat)))) st (h k)) (q : Q ((List.range n).map h) st) : compL ⟨xs, none⟩ (gNm i) dtYes te r Q (rgD 0 n) [] st := by
  refine lc_map (fun d => match d with | .int i => h i.toNat | _ => .non) (fun d hd => ?_) ?_
  · obtain ⟨k, lt, rfl⟩ := rgD_mem hd
    rw [Int.zero_add]
    exact he k lt
  · rw [rgD0, List.map_map]
    exact q
theorem Wk.id {b : DSt} {P : DEnv → DSt → Prop} {r : DEnv} {st : DSt} (h : P r st) : Wk b P r st := .inl h
theorem for_inv {I : DIt} {g : DTG} {F : DTS} {E : DEnds} {b : DSt} (W : List D → DEnv → DSt → Prop)
    (turn : ∀ d ds r st (N : DEnv → DSt → Prop), (∀ r st, Wk b (W ds) r st → N r st) → W (d :: ds) r st → okI I st (g d r st fun r1 st1 => F { nx := N, rt := E.rt, bk := E.nx, ct := N } r1 st1)) (done : ∀ r st, W [] r st → okI I st (E.nx r st)) :
    ∀ (items : List D) (r : DEnv) (st : DSt), W items r st → forL I g F E b items r st
  | [], r, st, h => done r st h
  | d :: ds, r, st, h => by
    refine turn d ds r st _ (fun r st w => ?_) h
    rcases w with w | ⟨r', n, h1, h2, h3, h4, h5, w⟩
    · exact .inl (for_inv W turn done ds r st w)
    · exact .inr ⟨r', n, h1, h2, h3, h4, h5, for_inv W turn done ds r' _ w⟩
theorem while_inv {t : DTT} {F : DTS} {E : DEnds} {b : DSt} (W : Nat → DEnv → DSt → Prop)
    (turn : ∀ m r st (N : DEnv → DSt → Prop), (∀ k r st, k < m → Wk b (W k) r st → N r st) → W m r st → t r st fun c st1 => if c = true then F { nx := N, rt := E.rt, bk := E.nx, ct := N } r st1 else E.nx r st1) :
    ∀ (n m : Nat) (r : DEnv) (st : DSt), m < n → W m r st → whileL t F E b n r st
  | 0, m, r, st, lt, _ => absurd lt (Nat.not_lt_zero m)
  | n + 1, m, r, st, lt, h => by
    refine turn m r st _ (fun k r st lk w => ?_) h
    rcases w with w | ⟨r', j, h1, h2, h3, h4, h5, w⟩
    · exact .inl (while_inv W turn n k r st (by omega) w)
    · exact .inr ⟨r', j, h1, h2, h3, h4, h5, while_inv W turn n k r' _ (by omega) w⟩
theorem s_while {t : DTT} {F : DTS} {E : DEnds} {r : DEnv} {st : DSt} (W : Nat → DEnv → DSt → Prop) (m : Nat) (h : W m r st)
    (turn : ∀ m r st' (N : DEnv → DSt → Prop), (∀ k r st', k < m → Wk st (W k) r st' → N r st') → W m r st' → t r st' fun c st1 => if c = true then F { nx := N, rt := E.rt, bk := E.nx, ct := N } r st1 else E.nx r st1) : sWhile t F E r st :=
  ⟨m + 1, while_inv W turn (m + 1) m r st (Nat.lt_succ_self m) h⟩
end DL
namespace DL
open PySem PySem.Spec PyProof.Rows L2 LamX PySem.W SL
def F_rule_of_orders (g_table_of_order : DRs) : DTS := (sRet (dCB dTuple (daCons (dLcG (wSeq (dVar 0)) (gNm 1) dtYes (dCB g_table_of_order (daCons (dVar 1) daNil)) [1] finT) daNil)))
def F_table_of_order : DTS := (sRet (dCB dTuple (daCons (dLcG (wRng1 (daCons (dCB dLen (daCons (dVar 0) daNil)) daNil)) (gNm 1) dtYes (dCB dTuple (daCons (dCB (dSortI finT) (daCons (dSlG finT (dVar 0) (oSome (dOp dAdd (dIndex (dVar 0) (daCons (dVar 1) daNil)) (dC (.int 1)))) oNone) daNil)) daNil)) [1] finT) daNil)))
def F_ring_at : DTS := (sSeq (sSet 2 (dOp dIx (dVar 0) (dVar 1))) (sSeq (sFor (wRng1 (daCons (dCB dLen (daCons (dVar 2) daNil)) daNil)) (gNm 3) (sFor (wSeq (dOp dIx (dVar 2) (dVar 3))) (gNm 4) (sFor (wSeq (dOp dIx (dVar 2) (dVar 4))) (gNm 5) (sIf (dTest (dOp dIn (dVar 3) (dOp dIx (dVar 2) (dVar 5)))) (sRet (dTup (daCons (dVar 3) (daCons (dVar 4) (daCons (dVar 5) daNil))))) sNext)))) (sRet (dC .non))))
def F_is_ordered (g_ring_at : DRs) : DTS := (sRet (dCB dAll (daCons (dLcG (wRng1 (daCons (dCB dLen (daCons (dVar 0) daNil)) daNil)) (gNm 1) dtYes (dIsN (dCB g_ring_at (daCons (dVar 0) (daCons (dVar 1) daNil)))) [1] finT) daNil)))
def F_farther_rule (g_rule_of_orders : DRs) (g_farther_order : DRs) : DTS := (sRet (dCB g_rule_of_orders (daCons (dCB dTuple (daCons (dLcG (wRng1 (daCons (dCB dLen (daCons (dOp dIx (dVar 0) (dC (.int 0))) daNil)) daNil)) (gNm 1) dtYes (dCB g_farther_order (daCons (dVar 0) (daCons (dVar 1) daNil))) [1] finT) daNil)) daNil)))
def F_farther_order : DTS := (sRet (dCB dTuple (daCons (dSortR finT (dCB dLen (daCons (dVar 0) daNil)) (pTup2 (pNeg (pIndex (pIx (pVar 0) (pVar 2)) (pVar 1))) (pVar 2))) daNil)))
def F__law_pot : DTS := (sSeq (sSet 2 (dIf (dTest (dOp dLtG (dVar 1) (dCB dLen (daCons (dVar 0) daNil)))) (dOp dIx (dVar 0) (dVar 1)) (dOp dAdd (dOp dMul (dC (.int 17)) (dVar 1)) (dC (.int 3))))) (sSeq (sSet 3 (dIf (dTest (dOp dGe (dCB dAbs (daCons (dVar 2) daNil)) (dOp dPow (dC (.int 10)) (dC (.int 18))))) (dOp dMod (dCB dAbs (daCons (dVar 2) daNil)) (dOp dPow (dOp dPow (dC (.int 10)) (dC (.int 60))) (dC (.int 3)))) (dC (.int 0)))) (sRet (dLstN (daCons (dVar 3) (daCons (dOp dMod (dOp dAdd (dOp dAdd (dOp dMul (dOp dMod (dVar 2) (dC (.int 2305843009213693951))) (dC (.int 69621))) (dOp dMul (dOp dMul (dC (.int 104729)) (dVar 1)) (dVar 1))) (dC (.int 71))) (dC (.int 2305843009213693921))) (daCons (dC (.int 0)) daNil)))))))
def F__law_take : DTS := (sSeq (sIf (dTest (dOp dGt (dOp dIx (dVar 0) (dC (.int 0))) (dC (.int 0)))) (sSeq (sSet 2 (dOp dMod (dOp dIx (dVar 0) (dC (.int 0))) (dVar 1))) (sSeq (sAsg (dOp dDiv (dOp dIx (dVar 0) (dC (.int 0))) (dVar 1)) (gSb (dVar 0) (dC (.int 0)))) (sRet (dVar 2)))) sNext) (sSeq (sAsg (dOp dAdd (dOp dIx (dVar 0) (dC (.int 2))) (dC (.int 1))) (gSb (dVar 0) (dC (.int 2)))) (sSeq (sSet 3 (dOp dIx (dLst (daCons (dC (.int 2147483647)) (daCons (dC (.int 2147483629)) (daCons (dC (.int 2147483587)) (daCons (dC (.int 2147483579)) (daCons (dC (.int 2147483563)) daNil)))))) (dOp dMod (dOp dIx (dVar 0) (dC (.int 2))) (dC (.int 5))))) (sSeq (sSet 4 (dOp dMod (dOp dPow (dOp dAdd (dOp dAdd (dOp dIx (dVar 0) (dC (.int 1))) (dOp dMul (dOp dMul (dC (.int 40009)) (dOp dIx (dVar 0) (dC (.int 2)))) (dOp dIx (dVar 0) (dC (.int 2))))) (dC (.int 31))) (dC (.int 3))) (dVar 3))) (sRet (dOp dMod (dOp dDiv (dOp dMod (dOp dMul (dVar 4) (dOp dAdd (dOp dMod (dVar 4) (dC (.int 10009))) (dOp dMul (dC (.int 89)) (dOp dIx (dVar 0) (dC (.int 2)))))) (dC (.int 2305843009213693907))) (dC (.int 89))) (dVar 1)))))))
def F__law_pick (g__law_take : DRs) : DTS := (sRet (dOp dIx (dVar 1) (dCB g__law_take (daCons (dVar 0) (daCons (dCB dLen (daCons (dVar 1) daNil)) daNil)))))
def F__law_mixed (g__law_take : DRs) : DTS := (sSeq (sPar 2 3 (daCons (dCB dListN (daCons (dVar 1) daNil)) (daCons (dLstN daNil) daNil))) (sSeq (sWhile (dTest (dOp dNe (dVar 2) (dLst daNil))) (sDrop (dMtL mAppend (dVar 3) (daCons (dMtL mPopAt (dVar 2) (daCons (dCB g__law_take (daCons (dVar 0) (daCons (dCB dLen (daCons (dVar 2) daNil)) daNil))) daNil)) daNil)))) (sRet (dVar 3))))
def F__law_line : DTS := (sRet (dCB dTuple (daCons (dLcG (wRng1 (daCons (dVar 0) daNil)) (gNm 2) dtYes (dOp dMod (dOp dAdd (dVar 1) (dVar 2)) (dVar 0)) [2] finT) daNil)))
end DL
namespace DL
open PySem PySem.Spec PyProof.Rows L2 LamX PySem.W SL
@[simp] theorem at0 {α : Type} {a : α} {xs : List α} : atI (a :: xs) 0 = some a := by unfold atI ixN; simp
@[simp] theorem at1 {α : Type} {a b : α} {xs : List α} : atI (a :: b :: xs) 1 = some b := atI_nat (j := 1) rfl
@[simp] theorem at2 {α : Type} {a b c : α} {xs : List α} : atI (a :: b :: c :: xs) 2 = some c := atI_nat (j := 2) rfl
def setS (o i d : D) (st : DSt) (P : DSt → Prop) : Prop := match o with
  | .ref n => onI i fun k => match st[n]? with
    | some (.lst xs) => onO (ixN xs.length k) fun j => P (st.set n (.lst (xs.set j d)))
    | _ => False
  | _ => False
@[simp] theorem e_gSb {fo fi : DTE} {x : D} {r : DEnv} {st : DSt} {k : DEnv → DSt → Prop} : gSb fo fi x r st k = fo r st fun o st1 => fi r st1 fun i st2 => setS o i x st2 (k r) := rfl
theorem setS_ref {n : Nat} {k : Int} {d : D} {st : DSt} {P : DSt → Prop} {xs : List D} (h : st[n]? = some (.lst xs)) : setS (.ref n) (.int k) d st P = onO (ixN xs.length k) fun j => P (st.set n (.lst (xs.set j d))) := by
  unfold setS
  simp only [e_onI, h]
def PotO (n : Nat) (o : O) : Prop := ∃ g m c : Int, o = .lst [.int g, .int m, .int c] ∧ 0 ≤ g ∧ g < 10 ^ 400 ∧ 0 ≤ m ∧ m < 2 ^ 61 ∧ 0 ≤ c ∧ c + n ≤ 1000000
theorem PotO.less {n m : Nat} {o : O} (h : PotO n o) (l : m ≤ n) : PotO m o := by
  obtain ⟨g, a, c, h1, h2, h3, h4, h5, h6, h7⟩ := h
  exact ⟨g, a, c, h1, h2, h3, h4, h5, h6, by omega⟩
def Pot (n : Nat) (p : Nat) (st : DSt) : Prop := ∃ o, st[p]? = some o ∧ PotO n o
theorem Pot.less {n m p : Nat} {st : DSt} (h : Pot n p st) (l : m ≤ n) : Pot m p st := by
  obtain ⟨o, e, h⟩ := h
  exact ⟨o, e, h.less l⟩
theorem Pot.lt {n p : Nat} {st : DSt} (h : Pot n p st) : p < st.length := by
  obtain ⟨o, e, h⟩ := h
  exact (List.getElem?_eq_some_iff.mp e).1
theorem Pot.set {n p : Nat} {st : DSt} {o : O} (lt : p < st.length) (h : PotO n o) : Pot n p (st.set p o) := ⟨o, List.getElem?_set_self lt, h⟩
theorem Pot.app {n p : Nat} {st : DSt} {os : List O} (h : Pot n p st) : Pot n p (st ++ os) := by
  obtain ⟨o, e, h⟩ := h
  exact ⟨o, by rw [List.getElem?_append_left (List.getElem?_eq_some_iff.mp e).1]; exact e, h⟩
def g_take : DRs := fun ds st Q => ∃ (p : Nat) (z : Int) (n : Nat), ds = [.ref p, .int z] ∧ Pot (n + 1) p st ∧ 0 < z ∧ z ≤ 1000 ∧ ∀ (r : Int) (o : O), 0 ≤ r → r < z → PotO n o → Q (.int r) (st.set p o)
theorem sem_take (ds : List D) (st : DSt) (Q : DK) (h : g_take ds st Q) : F__law_take { nx := fun _ st' => Rt st Q .non st', rt := Rt st Q } (startD 5 ds) st := by
  obtain ⟨p, z, n, rfl, ⟨o, e, g, m, c, rfl, g0, g1, m0, m1, c0, c1⟩, z0, z1, q⟩ := h
  have lt : p < st.length := (List.getElem?_eq_some_iff.mp e).1
  have sq := seq_ref e
  have st5 : startD 5 [D.ref p, D.int z] = [some (.ref p), some (.int z), none, none, none] := rfl
  by_cases gp : 0 < g
  · simp [F__law_take, st5, sq, gp, setS_ref e, ixN, CDiv, z0]
    refine ⟨by omega, .inl (q _ _ (Int.emod_nonneg _ (by omega)) (Int.emod_lt_of_pos _ z0) ⟨_, _, _, rfl, Int.ediv_nonneg g0 (by omega), ?_, m0, m1, c0, by omega⟩)⟩
    exact Int.lt_of_le_of_lt (Int.ediv_le_self z g0) g1
  · have e2 : (st.set p (.lst [.int g, .int m, .int (c + 1)]))[p]? = some (.lst [.int g, .int m, .int (c + 1)]) := List.getElem?_set_self lt
    have sq2 := seq_ref e2
    simp [F__law_take, st5, sq, gp, setS_ref e, ixN, sq2]
    have r0 : 0 ≤ (c + 1) % 5 := Int.emod_nonneg _ (by decide)
    have r1 : (c + 1) % 5 < 5 := Int.emod_lt_of_pos _ (by decide)
    obtain ⟨pr, hpr, p0, p1⟩ : ∃ pr : Int, atI [D.int 2147483647, .int 2147483629, .int 2147483587, .int 2147483579, .int 2147483563] ((c + 1) % 5) = some (.int pr) ∧ 0 < pr ∧ pr ≤ 2147483647 := by
      have cs : (c + 1) % 5 = 0 ∨ (c + 1) % 5 = 1 ∨ (c + 1) % 5 = 2 ∨ (c + 1) % 5 = 3 ∨ (c + 1) % 5 = 4 := by omega
      rcases cs with e | e | e | e | e <;> rw [e]
      · exact ⟨2147483647, atI_nat (j := 0) rfl, by decide, by decide⟩
      · exact ⟨2147483629, atI_nat (j := 1) rfl, by decide, by decide⟩
      · exact ⟨2147483587, atI_nat (j := 2) rfl, by decide, by decide⟩
      · exact ⟨2147483579, atI_nat (j := 3) rfl, by decide, by decide⟩
      · exact ⟨2147483563, atI_nat (j := 4) rfl, by decide, by decide⟩
    rw [hpr]
    have b1 : 40009 * (c + 1) ≤ 40009 * 1000000 := by omega
    have b2 : 0 ≤ 40009 * (c + 1) := by omega
    have b3 : 0 ≤ 40009 * (c + 1) * (c + 1) := Int.mul_nonneg b2 (by omega)
    have b4 : 40009 * (c + 1) * (c + 1) ≤ (40009 * 1000000) * 1000000 := Int.mul_le_mul b1 (by omega) (by omega) (by decide)
    have ib : Builtin.Int.intBits (m + 40009 * (c + 1) * (c + 1) + 31) ≤ 64 := intBits_le_64 (by omega) (by omega)
    simp only [e_onO, e_onI]
    refine ⟨.inl ⟨by decide, by decide⟩, .inl ⟨by omega, by omega⟩, by omega, p0, .inl ⟨by decide, by decide⟩, ?_⟩
    generalize (m + 40009 * (c + 1) * (c + 1) + 31) ^ 3 = y
    have y0 : 0 ≤ y % pr := Int.emod_nonneg _ (by omega)
    have y1 : y % pr < pr := Int.emod_lt_of_pos _ p0
    refine ⟨.inl ⟨by omega, by omega⟩, ⟨by decide, by decide⟩, z0, .inl (q _ _ (Int.emod_nonneg _ (by omega)) (Int.emod_lt_of_pos _ z0) ⟨_, _, _, rfl, g0, g1, m0, m1, by omega, by omega⟩)⟩
theorem ar_take (ds : List D) (st : DSt) (Q : DK) (h : g_take ds st Q) : ds.length = 2 := by
  obtain ⟨p, z, n, rfl, _⟩ := h
  rfl
def g_pot : DRs := fun ds st Q => ∃ (ns : List Int) (x : D) (k : Nat), ds = [x, .int k] ∧ Scr ns x ∧ k ≤ 3 ∧ ∀ o, PotO 1000000 o → Q (.ref st.length) (st ++ [o])
theorem ar_pot (ds : List D) (st : DSt) (Q : DK) (h : g_pot ds st Q) : ds.length = 2 := by
  obtain ⟨ns, x, k, rfl, _⟩ := h
  rfl
theorem sem_pot (ds : List D) (st : DSt) (Q : DK) (h : g_pot ds st Q) : F__law_pot { nx := fun _ st' => Rt st Q .non st', rt := Rt st Q } (startD 4 ds) st := by
  obtain ⟨ns, x, k, rfl, hx, k3, q⟩ := h
  have sq := hx.seq
  have st4 : startD 4 [x, D.int (k : Nat)] = [some x, some (.int k), none, none] := rfl
  have e60 : (10 : Int) ^ 60 = 1000000000000000000000000000000000000000000000000000000000000 := by decide +kernel
  have ib1 : Builtin.Int.intBits 10 ≤ 64 := intBits_le_64 (by decide) (by decide)
  have ib60 : Builtin.Int.intBits (10 ^ 60) * 3 ≤ 2 ^ 27 := by decide +kernel
  have fin : ∀ (v : Int) (g : Int), 0 ≤ g → g < 10 ^ 400 → CMul (v % 2305843009213693951) 69621 ∧ CMul 104729 (k : Int) ∧ CMul (104729 * (k : Int)) k ∧ Rt st Q (.ref st.length) (st ++ [.lst [.int g, .int ((v % 2305843009213693951 * 69621 + 104729 * (k : Int) * (k : Int) + 71) % 2305843009213693921), .int 0]]) := fun v g g0 g1 => by
    have a0 : 0 ≤ v % 2305843009213693951 := Int.emod_nonneg _ (by decide)
    have a1 : v % 2305843009213693951 < 2305843009213693951 := Int.emod_lt_of_pos _ (by decide)
    refine ⟨.inl ⟨by omega, by omega⟩, .inl ⟨by decide, by decide⟩, .inl ⟨by omega, by omega⟩, .inl (q _ ⟨g, _, 0, rfl, g0, g1, Int.emod_nonneg _ (by decide), Int.lt_trans (Int.emod_lt_of_pos _ (by decide)) (by decide), by decide, by decide⟩)⟩
  by_cases lt : k < ns.length
  · have ha : atI (ns.map D.int) (k : Int) = some (.int ns[k]) := atI_nat (by rw [List.getElem?_map, List.getElem?_eq_getElem lt]; rfl)
    simp [F__law_pot, st4, lt, ha, sq]
    refine ⟨by omega, ?_⟩
    generalize (if ns[k] < 0 then -ns[k] else ns[k]) = w
    split
    · refine ⟨by omega, by decide +kernel, ?_⟩
      exact fin _ _ (Int.emod_nonneg _ (by decide)) (Int.lt_of_lt_of_le (Int.emod_lt_of_pos _ (by decide)) (by decide +kernel))
    · exact fin _ 0 (by decide) (by decide +kernel)
  · simp [F__law_pot, st4, lt, sq]
    refine ⟨.inl ⟨by decide, by decide⟩, by omega, ?_⟩
    generalize (if 17 * (k : Int) + 3 < 0 then -(17 * (k : Int) + 3) else 17 * (k : Int) + 3) = w
    split
    · refine ⟨by omega, by decide +kernel, ?_⟩
      exact fin _ _ (Int.emod_nonneg _ (by decide)) (Int.lt_of_lt_of_le (Int.emod_lt_of_pos _ (by decide)) (by decide +kernel))
    · exact fin _ 0 (by decide) (by decide +kernel)
theorem seqS_set {st : DSt} {p : Nat} {o : O} {x : D} (h : x ≠ .ref p) : seqS (st.set p o) x = seqS st x := by
  cases x with
  | ref n =>
    have ne : n ≠ p := fun e => h (by rw [e])
    unfold seqS
    simp only [List.getElem?_set_ne (fun e => ne e.symm)]
  | _ => rfl
theorem PotO.lst {n : Nat} {o : O} (h : PotO n o) : ∃ xs, o = .lst xs := by
  obtain ⟨g, m, c, e, _⟩ := h
  exact ⟨_, e⟩
def g_pick : DRs := fun ds st Q => ∃ (p : Nat) (x : D) (xs : List D) (n : Nat), ds = [.ref p, x] ∧ x ≠ .ref p ∧ seqS st x = some xs ∧ xs ≠ [] ∧ xs.length ≤ 1000 ∧ Pot (n + 1) p st ∧ ∀ (d : D) (o : O), d ∈ xs → PotO n o → Q d (st.set p o)
theorem ar_pick (ds : List D) (st : DSt) (Q : DK) (h : g_pick ds st Q) : ds.length = 2 := by
  obtain ⟨ns, x, xs, k, rfl, _⟩ := h
  rfl
theorem sem_pick (ds : List D) (st : DSt) (Q : DK) (h : g_pick ds st Q) : F__law_pick g_take { nx := fun _ st' => Rt st Q .non st', rt := Rt st Q } (startD 2 ds) st := by
  obtain ⟨p, x, xs, n, rfl, ne, sq, nn, l, pot, q⟩ := h
  have st2 : startD 2 [D.ref p, x] = [some (.ref p), some x] := rfl
  have l0 : 0 < xs.length := List.length_pos_iff.mpr nn
  simp [F__law_pick, st2, sq]
  refine ⟨p, _, n, rfl, pot, by omega, by omega, fun r o r0 r1 po => ?_⟩
  show onO (seqS (st.set p o) x) _
  rw [seqS_set ne, sq]
  have lt : r.toNat < xs.length := by omega
  have ha : atI xs r = some xs[r.toNat] := by
    have z := atI_nat (xs := xs) (j := r.toNat) (v := xs[r.toNat]) (List.getElem?_eq_getElem lt)
    rw [Int.toNat_of_nonneg r0] at z
    exact z
  simp only [e_onO, e_onI, ha]
  exact .inl (q _ o (List.getElem_mem lt) po)
def lineI (n : Nat) (b : Int) : List Int := (List.range n).map fun i : Nat => (b + (i : Int)) % (n : Int)
def g_line : DRs := fun ds st Q => ∃ (n : Nat) (b : Int), ds = [.int n, .int b] ∧ 0 < n ∧ n ≤ 1000 ∧ Q (.tup ((lineI n b).map D.int)) st
theorem ar_line (ds : List D) (st : DSt) (Q : DK) (h : g_line ds st Q) : ds.length = 2 := by
  obtain ⟨n, b, rfl, _⟩ := h
  rfl
theorem sem_line (ds : List D) (st : DSt) (Q : DK) (h : g_line ds st Q) : F__law_line { nx := fun _ st' => Rt st Q .non st', rt := Rt st Q } (startD 3 ds) st := by
  obtain ⟨n, b, rfl, n0, n1, q⟩ := h
  have st3 : startD 3 [D.int (n : Int), D.int b] = [some (.int n), some (.int b), none] := rfl
  simp [F__law_line, st3, rgD_length]
  refine ⟨by omega, Nat.le_of_lt (small1000 n1), lc_rng (fun k => .int ((b + (k : Int)) % (n : Int))) (fun k lt Q' q' => ?_) ?_⟩
  · simp
    exact ⟨n0, q'⟩
  · simp
    refine .inl ?_
    unfold lineI at q
    rw [List.map_map] at q
    exact q
theorem take_same {st st1 : DSt} {junk : List O} (l : st1.length = st.length) : (st1 ++ junk).take st.length = st1 := by
  rw [← l]
  simp
theorem cloS_app {st st1 : DSt} {junk : List O} (l : st1.length = st.length) (cs : ∀ (i : Nat) (o : O), st1[i]? = some o → st[i]? = some o ∨ cloO st.length o = true) : cloS st st.length (st1 ++ junk) := fun i o lt e => by
  rw [List.getElem?_append_left (by omega)] at e
  exact cs i o e
theorem rt_drop {st st1 : DSt} {junk : List O} {d : D} {Q : DK} (l : st1.length = st.length) (c : clo st.length d = true) (cs : ∀ (i : Nat) (o : O), st1[i]? = some o → st[i]? = some o ∨ cloO st.length o = true) (q : Q d st1) : Rt st Q d (st1 ++ junk) :=
  .inr (.inl ⟨st.length, Nat.le_refl _, by rw [List.length_append]; omega, c, cloS_app l cs, by rw [take_same l]; exact q⟩)
theorem rt_list {st st1 : DSt} {junk : List O} {n : Nat} {ds : List D} {Q : DK} (l : st1.length = st.length) (le : st.length ≤ n) (e : (st1 ++ junk)[n]? = some (.lst ds)) (c : clos st.length ds = true) (cs : ∀ (i : Nat) (o : O), st1[i]? = some o → st[i]? = some o ∨ cloO st.length o = true) (q : Q (.lst ds) st1) : Rt st Q (.ref n) (st1 ++ junk) :=
  .inr (.inr ⟨st.length, .lst ds, Nat.le_refl _, by rw [List.length_append]; omega, .own le e (.same c), cloS_app l cs, by rw [take_same l]; exact q⟩)
theorem clos_ints (n : Nat) : ∀ ns : List Int, clos n (ns.map D.int) = true
  | [] => by simp [clos]
  | i :: ns => by
    rw [List.map_cons]
    simp only [clos, clo, Bool.true_and]
    exact clos_ints n ns
theorem PotO.clo {n m : Nat} {o : O} (h : PotO n o) : cloO m o = true := by
  obtain ⟨g, a, c, rfl, _⟩ := h
  simp [cloO, clos, DL.clo]
theorem cs_set {st : DSt} {p n m : Nat} {o : O} (h : PotO n o) : ∀ (i : Nat) (u : O), (st.set p o)[i]? = some u → st[i]? = some u ∨ cloO m u = true := fun i u e => by
  by_cases z : i = p
  · subst z
    have lt : i < st.length := by
      have := (List.getElem?_eq_some_iff.mp e).1
      rw [List.length_set] at this
      exact this
    rw [List.getElem?_set_self lt] at e
    cases e
    exact .inr h.clo
  · rw [List.getElem?_set_ne (fun w => z w.symm)] at e
    exact .inl e
mutual
theorem pdT_clo {n : Nat} : ∀ {d : D} {p : PyData}, pdT d = some p → clo n d = true
  | .non, _, e => by simp [clo]
  | .bl b, _, e => by simp [clo]
  | .int b, _, e => by simp [clo]
  | .str b, _, e => by simp [clo]
  | .tup ds, _, e => by
    simp only [pdT, Option.map_eq_some_iff] at e
    obtain ⟨ps, e, rfl⟩ := e
    simp only [clo]
    exact pdTs_clo e
  | .tuk ds, _, e => by
    simp only [pdT, Option.map_eq_some_iff] at e
    obtain ⟨ps, e, rfl⟩ := e
    simp only [clo]
    exact pdTs_clo e
  | .lst ds, _, e => by
    simp only [pdT, Option.map_eq_some_iff] at e
    obtain ⟨ps, e, rfl⟩ := e
    simp only [clo]
    exact pdTs_clo e
  | .scr ds, _, e => by
    simp only [pdT, Option.map_eq_some_iff] at e
    obtain ⟨ps, e, rfl⟩ := e
    simp only [clo]
    exact pdTs_clo e
  | .ref n, _, e => by simp [pdT] at e
theorem pdTs_clo {n : Nat} : ∀ {d : List D} {p : List PyData}, pdTs d = some p → clos n d = true
  | [], _, e => by simp [clos]
  | d :: ds, _, e => by
    unfold pdTs at e
    cases q : pdT d with
    | none => rw [q] at e; cases e
    | some y =>
      rw [q] at e
      simp only [Option.map_eq_some_iff] at e
      obtain ⟨ps, e, rfl⟩ := e
      simp only [clos, pdT_clo q, pdTs_clo e, Bool.and_self]
end
theorem sm_clos {k c n : Nat} {ds : List D} (h : ∀ d ∈ ds, Sm k c d) : clos n ds = true := by
  obtain ⟨ps, e, _⟩ := sm_all h
  exact pdTs_clo e
theorem Sm.clo {k c n : Nat} {d : D} (h : Sm k c d) : DL.clo n d = true := by
  obtain ⟨p, e, _⟩ := h
  exact pdT_clo e
theorem ne_nil {st : DSt} {n k c : Nat} {xs : List D} {Q : DK} (e : st[n]? = some (.lst xs)) (sm : ∀ d ∈ xs, Sm k c d) (hk : k ≤ 40) (q : Q (.bl (!xs.isEmpty)) st) : dEqG true (.ref n) (.lst []) st Q := by
  obtain ⟨ps, e1, el, l⟩ := sm_all sm
  have p1 : pdS st (.ref n) = some (.list ps) := by unfold pdS; simp only [e, e1]; rfl
  have p2 : pdS st (.lst []) = some (.list []) := by simp [pdS, pdT, pdTs]
  show dEqD true (.ref n) (.lst []) st Q
  unfold dEqD
  rw [p1, p2]
  refine ⟨⟨Sm.shaped (el_list (m := ps.length) el (Nat.le_refl _)) (by omega), by decide +kernel⟩, ?_⟩
  have ee : PyData.eqv (.list ps) (.list []) = ps.isEmpty := by cases ps <;> simp [PyData.eqv, PyData.eqvAll]
  have e3 : ps.isEmpty = xs.isEmpty := by
    cases ps <;> cases xs <;> simp at l ⊢
  show Q (.bl (!PyData.eqv (.list ps) (.list []))) st
  rw [ee, e3]
  exact q
def g_mixed : DRs := fun ds st Q => ∃ (p : Nat) (x : D) (xs : List D) (n : Nat), ds = [.ref p, x] ∧ seqS st x = some xs ∧ x ≠ .ref p ∧ xs.length ≤ 900 ∧ (∀ d ∈ xs, Sm 30 100000 d) ∧ Pot (n + xs.length) p st ∧ ∀ (ys : List D) (o : O), ys.Perm xs → PotO n o → Q (.lst ys) (st.set p o)
theorem ar_mixed (ds : List D) (st : DSt) (Q : DK) (h : g_mixed ds st Q) : ds.length = 2 := by
  obtain ⟨ns, x, xs, k, rfl, _⟩ := h
  rfl
theorem take_outD {α : Type} : ∀ (l : List α) (i : Nat) (h : i < l.length), (l[i] :: l.eraseIdx i).Perm l
  | a :: l, 0, _ => List.Perm.refl _
  | a :: l, i + 1, h => by
    have z := take_outD l i (by simpa using h)
    exact (List.Perm.swap _ _ _).trans (List.Perm.cons a z)
theorem pop_ref {st : DSt} {n : Nat} {xs : List D} {i : Int} {Q : DK} (e : st[n]? = some (.lst xs)) (i0 : 0 ≤ i) (lt : i.toNat < xs.length) (few : xs.length ≤ 1000) (q : Q xs[i.toNat] (st.set n (.lst (xs.eraseIdx i.toNat)))) : mPopAt (.ref n) [.int i] st Q := by
  unfold mPopAt
  simp only [e_on1, e_onI, onL, e]
  refine ⟨⟨by omega, by omega⟩, ?_⟩
  have z : seqIndex? i xs.length = some i.toNat := seqIndex_of i0 (by omega)
  rw [z]
  show onO xs[i.toNat]? _
  rw [List.getElem?_eq_getElem lt]
  exact q
theorem append_ref {st : DSt} {n : Nat} {xs : List D} {y : D} {Q : DK} (e : st[n]? = some (.lst xs)) (lt : xs.length < sizeLine) (q : Q .non (st.set n (.lst (xs ++ [y])))) : mAppend (.ref n) [y] st Q := by
  unfold mAppend
  simp only [e_on1, onL, e]
  exact ⟨lt, q⟩
theorem sem_mixed (ds : List D) (st : DSt) (Q : DK) (h : g_mixed ds st Q) : F__law_mixed g_take { nx := fun _ st' => Rt st Q .non st', rt := Rt st Q } (startD 4 ds) st := by
  obtain ⟨p, x, xs, n, rfl, sq, ne, l, sm, ⟨o, e, po⟩, q⟩ := h
  have lt : p < st.length := (List.getElem?_eq_some_iff.mp e).1
  have st4 : startD 4 [D.ref p, x] = [some (.ref p), some x, none, none] := rfl
  simp [F__law_mixed, st4, sq]
  refine s_while (fun m r st' => ∃ (left found : List D) (o : O), r = [some (.ref p), some x, some (.ref st.length), some (.ref (st.length + 1))] ∧ st' = st.set p o ++ [.lst left, .lst found] ∧ PotO (n + left.length) o ∧ (found ++ left).Perm xs ∧ m = left.length) xs.length ⟨xs, [], o, rfl, ?_, po, by simp, rfl⟩ ?_
  · have z : st.set p o = st := by
      refine List.ext_getElem? fun i => ?_
      by_cases w : i = p
      · subst w; rw [List.getElem?_set_self lt, e]
      · rw [List.getElem?_set_ne (fun w' => w w'.symm)]
    rw [z]
  · rintro m r st' N hN ⟨left, found, o, rfl, rfl, po, pm, rfl⟩
    have ll : (st.set p o).length = st.length := List.length_set
    have ea : (st.set p o ++ [O.lst left, .lst found])[st.length]? = some (.lst left) := by rw [List.getElem?_append_right (by omega), ll]; simp
    have eb : (st.set p o ++ [O.lst left, .lst found])[st.length + 1]? = some (.lst found) := by rw [List.getElem?_append_right (by omega), ll]; simp
    have sml : ∀ d ∈ left, Sm 30 100000 d := fun d hd => sm d (pm.mem_iff.mp (List.mem_append_right _ hd))
    have smf : ∀ d ∈ found, Sm 30 100000 d := fun d hd => sm d (pm.mem_iff.mp (List.mem_append_left _ hd))
    simp
    refine ne_nil ea sml (by decide) ?_
    cases left with
    | nil =>
      simp
      refine rt_list ll (by omega) eb (sm_clos smf) (cs_set po) (q found o ?_ po)
      simpa using pm
    | cons z rest =>
      simp [LstD, ea, eb, seq_ref ea]
      have lxs := pm.length_eq
      rw [List.length_append, List.length_cons] at lxs
      refine ⟨p, _, n + rest.length, rfl, ⟨o, by rw [List.getElem?_append_left (by omega), List.getElem?_set_self lt], po⟩, by omega, by omega, fun r o' r0 r1 po' => ?_⟩
      have e2 : (st.set p o ++ [O.lst (z :: rest), .lst found]).set p o' = st.set p o' ++ [O.lst (z :: rest), .lst found] := by rw [List.set_append_left _ _ (by omega), List.set_set]
      have ll' : (st.set p o').length = st.length := List.length_set
      have ea' : (st.set p o' ++ [O.lst (z :: rest), .lst found])[st.length]? = some (.lst (z :: rest)) := by rw [List.getElem?_append_right (by omega), ll']; simp
      have hr : r.toNat < (z :: rest).length := by rw [List.length_cons]; omega
      rw [e2]
      refine pop_ref ea' r0 hr (by rw [List.length_cons]; omega) ?_
      have e3 : (st.set p o' ++ [O.lst (z :: rest), .lst found]).set st.length (.lst ((z :: rest).eraseIdx r.toNat)) = st.set p o' ++ [.lst ((z :: rest).eraseIdx r.toNat), .lst found] := by
        rw [List.set_append_right _ _ (by omega), ll', Nat.sub_self]
        rfl
      rw [e3]
      have eb' : (st.set p o' ++ [O.lst ((z :: rest).eraseIdx r.toNat), .lst found])[st.length + 1]? = some (.lst found) := by rw [List.getElem?_append_right (by omega), ll']; simp
      refine append_ref eb' (small1000 (by omega)) ?_
      have e4 : (st.set p o' ++ [O.lst ((z :: rest).eraseIdx r.toNat), .lst found]).set (st.length + 1) (.lst (found ++ [(z :: rest)[r.toNat]])) = st.set p o' ++ [.lst ((z :: rest).eraseIdx r.toNat), .lst (found ++ [(z :: rest)[r.toNat]])] := by
        rw [List.set_append_right _ _ (by omega), ll', show st.length + 1 - st.length = 1 by omega]
        rfl
      rw [e4]
      have le : ((z :: rest).eraseIdx r.toNat).length = rest.length := by
        rw [List.length_eraseIdx_of_lt hr, List.length_cons]
        omega
      refine hN rest.length _ _ (by simp) (.inl ⟨_, _, o', rfl, rfl, by rw [le]; exact po', ?_, le.symm⟩)
      refine List.Perm.trans ?_ pm
      rw [List.append_assoc]
      exact List.Perm.append_left found (take_outD _ _ hr)
end DL
namespace DL
open PySem PySem.Spec PyProof.Rows L2 LamX PySem.W SL
theorem all_map_id {α : Type} (p : α → Bool) (xs : List α) : (xs.map p).all id = xs.all p := by rw [List.all_map]; rfl
theorem all_end {α : Type} {xs : List α} {p : α → Bool} {Q : DK} {st : DSt} (q : Q (.bl (xs.all p)) st) : finT (fun d st1 => dAllR (fun bs => bs.all id) [d] st1 Q) (xs.map fun x => D.bl (p x)) st := by
  simp only [e_finT, e_allR, boolsD_map, e_onO]
  rw [all_map_id]
  exact q
theorem tuple_end {Q : DK} {xs : List D} {st : DSt} (q : Q (.tup xs) st) : finT (fun d st1 => dTuple [d] st1 Q) xs st := q
def rowD (ns : List Int) : D := .tup (ns.map D.int)
def rowsD (nss : List (List Int)) : D := .tup (nss.map rowD)
@[simp] theorem flat_int (i : Int) : flatD (.int i) = true := rfl
theorem flat_row (ns : List Int) : (ns.map D.int).all flatD = true := by rw [List.all_eq_true]; intro d hd; obtain ⟨i, _, rfl⟩ := List.mem_map.mp hd; rfl
theorem any_row (ns : List Int) (a : Int) : ((ns.map D.int).any fun y => eqF y (.int a)) = decide (a ∈ ns) := by
  rw [List.any_map]
  induction ns with
  | nil => simp
  | cons n ns ih =>
    rw [List.any_cons, ih]
    show ((n == a) || decide (a ∈ ns)) = decide (a ∈ n :: ns)
    by_cases e : n = a
    · rw [e]; simp
    · have e' : ¬ a = n := fun z => e z.symm
      simp [e, e']
theorem row_in {a : Int} {ns : List Int} {st : DSt} {Q : DK} (q : Q (.bl (decide (a ∈ ns))) st) : dInG false (.int a) (rowD ns) st Q := by
  unfold rowD
  simp only [e_in, e_seqT, e_onO]
  refine ⟨⟨rfl, flat_row ns⟩, ?_⟩
  rw [any_row]
  exact q
theorem iteT' {c : Bool} {A B : Prop} (h : c = true) (a : A) : if c = true then A else B := by rw [if_pos h]; exact a
theorem iteF' {c : Bool} {A B : Prop} (h : c = false) (b : B) : if c = true then A else B := by rw [h]; exact iteF b
theorem at_map {α β : Type} {f : α → β} {xs : List α} {i : Nat} {x : α} (h : xs[i]? = some x) : atI (xs.map f) (i : Int) = some (f x) := atI_nat (by rw [List.getElem?_map, h]; rfl)
def dec (nss : List (List Int)) (a b : Nat) : Bool := if a = b then !decide ((a : Int) ∈ nss.getD a []) else (decide ((b : Int) ∈ nss.getD a []) != decide ((a : Int) ∈ nss.getD b []))
theorem getD_at {nss : List (List Int)} {a : Nat} (h : a < nss.length) : nss[a]? = some (nss.getD a []) := by
  rw [List.getD_eq_getElem?_getD, List.getElem?_eq_getElem h]
  rfl
theorem rows_at {nss : List (List Int)} {a : Nat} (h : a < nss.length) : atI (nss.map rowD) (a : Int) = some (rowD (nss.getD a [])) := at_map (getD_at h)
theorem compL_gen {g : DTG} {te : DTE} {r : DEnv} {Q : List D → DSt → Prop} {st : DSt} {xs : List D} {α : Type} (f : α → D) (h : α → D) :
    ∀ (items : List α) (acc : List D), (∀ a ∈ items, ∀ Q' : DEnv → DSt → Prop, (∀ r2, Ev te r2 st (h a) → Q' r2 st) → g (f a) r st Q') → Q (acc ++ items.map h) st → compL ⟨xs, none⟩ g dtYes te r Q (items.map f) acc st
  | [], acc, _, q => by
    have q' : Q acc st := by simpa using q
    exact q'
  | a :: as, acc, hh, q => by
    show g (f a) r st _
    refine hh a List.mem_cons_self _ fun r2 e2 => ?_
    show te r2 st _
    refine e2 _ (compL_gen f h as _ (fun b hb => hh b (List.mem_cons_of_mem _ hb)) ?_)
    simpa using q
theorem compI_rng {te : DTE} {r : DEnv} {Nx : List D → DSt → Prop} {st : DSt} {xs : List D} {i : Nat} (h : D → D) :
    ∀ (items acc : List D), acc.length + items.length ≤ sizeLine → (∀ d ∈ items, Ev te (r.set i (some d)) st (h d)) → Nx (acc ++ items.map h) st → compI ⟨xs, none⟩ (gNm i) dtYes te r Nx items acc st
  | [], acc, _, _, q => by
    have q' : Nx acc st := by simpa using q
    exact q'
  | d :: ds, acc, le, hh, q => by
    rw [List.length_cons] at le
    show te (r.set i (some d)) st _
    refine hh d List.mem_cons_self _ ⟨by omega, compI_rng h ds _ (by rw [List.length_append]; simp; omega) (fun b hb => hh b (List.mem_cons_of_mem _ hb)) ?_⟩
    simpa using q
@[simp] theorem e_lc2 {f f1 : DTI} {g g1 : DTG} {tt tt1 : DTT} {te : DTE} {vs vs1 : List Nat} {fin : DK → List D → DSt → Prop} {r : DEnv} {st : DSt} {Q : DK} : dLc2G f g tt f1 g1 tt1 te vs vs1 fin r st Q = f r st fun I st1 => comp2 I g tt f1 g1 tt1 te (wipeD r vs) vs1 (fin Q) I.items [] st1 := rfl
structure Tb (n : Nat) (nss : List (List Int)) : Prop where
  len : nss.length = n
  asc : ∀ a : Nat, a < n → (nss.getD a []).Pairwise (· < ·)
  inr : ∀ a : Nat, a < n → ∀ x ∈ nss.getD a [], 0 ≤ x ∧ x < (n : Int)
  one : ∀ a b : Nat, a < n → b < n → dec nss a b = true
theorem Tb.row {n : Nat} {nss : List (List Int)} (t : Tb n nss) {ns : List Int} (h : ns ∈ nss) : ns.Pairwise (· < ·) ∧ ∀ x ∈ ns, 0 ≤ x ∧ x < (n : Int) := by
  obtain ⟨a, ha⟩ := List.mem_iff_getElem?.mp h
  have lt : a < n := by rw [← t.len]; exact (List.getElem?_eq_some_iff.mp ha).1
  have e : nss.getD a [] = ns := by rw [List.getD_eq_getElem?_getD, ha]; rfl
  rw [← e]
  exact ⟨t.asc a lt, t.inr a lt⟩
theorem asc_len {n : Nat} : ∀ {ns : List Int} {lo : Int}, ns.Pairwise (· < ·) → (∀ x ∈ ns, lo ≤ x ∧ x < (n : Int)) → (ns.length : Int) ≤ (n : Int) - lo ∨ ns = []
  | [], lo, _, _ => .inr rfl
  | a :: r, lo, h, hx => by
    have h1 := List.pairwise_cons.mp h
    have ha := hx a List.mem_cons_self
    rcases asc_len (lo := a + 1) h1.2 (fun x m => ⟨by have := h1.1 x m; omega, (hx x (List.mem_cons_of_mem _ m)).2⟩) with z | z
    · left; rw [List.length_cons]; omega
    · left; rw [z]; simp; omega
theorem Tb.few {n : Nat} {nss : List (List Int)} (t : Tb n nss) {ns : List Int} (h : ns ∈ nss) : ns.length ≤ n := by
  obtain ⟨a, b⟩ := t.row h
  rcases asc_len (lo := 0) a b with z | z
  · omega
  · rw [z]; simp
theorem all_end0 {ds : List D} {Q : DK} {st : DSt} (h : ∀ d ∈ ds, d = .bl true) (q : Q (.bl true) st) : finT (fun d st1 => dAllR (fun bs => bs.all id) [d] st1 Q) ds st := by
  have e : ds = (List.replicate ds.length true).map D.bl := by
    refine List.ext_getElem (by simp) fun i h1 h2 => ?_
    rw [h _ (List.getElem_mem h1)]
    simp
  rw [e]
  refine all_end (p := id) ?_
  rw [show (List.replicate ds.length true).all id = true by simp]
  exact q
def tabsD (ts : List (List (List Int))) : D := .tup (ts.map rowsD)
end DL
namespace DL
open PySem PySem.Spec PyProof.Rows L2 LamX PySem.W SL
def sortI (ns : List Int) : List Int := ns.mergeSort fun a b => decide (a ≤ b)
theorem sortI_perm (ns : List Int) : (sortI ns).Perm ns := List.mergeSort_perm _ _
theorem sortI_sorted (ns : List Int) : (sortI ns).Pairwise (· ≤ ·) := by
  have h := List.pairwise_mergeSort (le := fun a b : Int => decide (a ≤ b)) (fun a b c h1 h2 => by simp at h1 h2 ⊢; omega) (fun a b => by simp; omega) ns
  exact h.imp fun h => by simpa using h
theorem sorted_one : ∀ {xs ys : List Int}, xs.Perm ys → xs.Pairwise (· ≤ ·) → ys.Pairwise (· ≤ ·) → xs = ys
  | [], ys, p, _, _ => by rw [List.nil_perm.mp p]
  | x :: xs, [], p, _, _ => by have := p.length_eq; simp at this
  | x :: xs, y :: ys, p, h1, h2 => by
    have h1' := List.pairwise_cons.mp h1
    have h2' := List.pairwise_cons.mp h2
    have e : x = y := by
      rcases List.mem_cons.mp (p.mem_iff.mp List.mem_cons_self) with z | z
      · exact z
      · rcases List.mem_cons.mp (p.mem_iff.mpr (List.mem_cons_self (a := y) (l := ys))) with w | w
        · exact w.symm
        · have := h2'.1 x z
          have := h1'.1 y w
          omega
    subst e
    rw [sorted_one (List.Perm.cons_inv p) h1'.2 h2'.2]
theorem asc_one : ∀ {xs ys : List Int}, xs.Pairwise (· < ·) → ys.Pairwise (· < ·) → (∀ a, a ∈ xs ↔ a ∈ ys) → xs = ys
  | [], [], _, _, _ => rfl
  | [], y :: ys, _, _, h => by have := (h y).mpr List.mem_cons_self; cases this
  | x :: xs, [], _, _, h => by have := (h x).mp List.mem_cons_self; cases this
  | x :: xs, y :: ys, h1, h2, h => by
    have h1' := List.pairwise_cons.mp h1
    have h2' := List.pairwise_cons.mp h2
    have e : x = y := by
      rcases List.mem_cons.mp ((h x).mp List.mem_cons_self) with z | z
      · exact z
      · rcases List.mem_cons.mp ((h y).mpr List.mem_cons_self) with w | w
        · exact w.symm
        · have := h2'.1 x z
          have := h1'.1 y w
          omega
    subst e
    rw [asc_one h1'.2 h2'.2 fun a => ?_]
    constructor
    · intro ha
      rcases List.mem_cons.mp ((h a).mp (List.mem_cons_of_mem _ ha)) with z | z
      · have := h1'.1 a ha; omega
      · exact z
    · intro ha
      rcases List.mem_cons.mp ((h a).mpr (List.mem_cons_of_mem _ ha)) with z | z
      · have := h2'.1 a ha; omega
      · exact z
theorem sort_ev {fin : DK → List D → DSt → Prop} {x : D} {st : DSt} {ns : List Int} {Q : DK} (e : seqS st x = some (ns.map D.int)) (few : ns.length ≤ 100000) (q : fin Q ((sortI ns).map D.int) st) : dSortI fin [x] st Q := by
  unfold dSortI
  simp only [e_on1, e, e_onO, intsD_ints]
  refine ⟨few, fun out p s => ?_⟩
  rw [sorted_one (p.trans (sortI_perm ns).symm) s (sortI_sorted ns)]
  exact q
def R (n : Nat) : List Int := (List.range n).map fun i : Nat => (i : Int)
theorem R_mem {n : Nat} {x : Int} : x ∈ R n ↔ 0 ≤ x ∧ x < n := by
  unfold R
  rw [List.mem_map]
  constructor
  · rintro ⟨i, hi, rfl⟩
    have := List.mem_range.mp hi
    omega
  · rintro ⟨h0, h1⟩
    exact ⟨x.toNat, List.mem_range.mpr (by omega), by omega⟩
theorem R_nodup (n : Nat) : (R n).Nodup := by
  unfold R
  refine List.Pairwise.map _ (fun a b h => ?_) List.nodup_range
  omega
theorem R_length (n : Nat) : (R n).length = n := by unfold R; rw [List.length_map, List.length_range]
def pos (ns : List Int) (x : Int) : Nat := (ixOf x ns).getD 0
theorem pos_at {ns : List Int} {x : Int} (h : x ∈ ns) : ns[pos ns x]? = some x ∧ ixOf x ns = some (pos ns x) := by
  obtain ⟨j, e⟩ := ixOf_mem h
  unfold pos
  rw [e]
  exact ⟨(ixOf_spec e).1, rfl⟩
theorem nd_at {α : Type} {ns : List α} (nd : ns.Nodup) {i j : Nat} {x : α} (h1 : ns[i]? = some x) (h2 : ns[j]? = some x) : i = j := by
  obtain ⟨l1, q1⟩ := List.getElem?_eq_some_iff.mp h1
  obtain ⟨l2, q2⟩ := List.getElem?_eq_some_iff.mp h2
  exact (List.getElem_inj nd).mp (q1.trans q2.symm)
theorem mem_behind {ns : List Int} (nd : ns.Nodup) {x : Int} {i : Nat} : x ∈ ns.drop (i + 1) ↔ x ∈ ns ∧ i < pos ns x := by
  constructor
  · intro h
    have hx := List.mem_of_mem_drop h
    obtain ⟨j, hj⟩ := List.mem_iff_getElem?.mp h
    rw [List.getElem?_drop] at hj
    have := nd_at nd (pos_at hx).1 hj
    exact ⟨hx, by omega⟩
  · rintro ⟨hx, lt⟩
    refine List.mem_iff_getElem?.mpr ⟨pos ns x - (i + 1), ?_⟩
    rw [List.getElem?_drop, show i + 1 + (pos ns x - (i + 1)) = pos ns x by omega]
    exact (pos_at hx).1
theorem pos_inj {ns : List Int} {x y : Int} (hx : x ∈ ns) (hy : y ∈ ns) (e : pos ns x = pos ns y) : x = y := by
  have h1 := (pos_at hx).1
  rw [e, (pos_at hy).1] at h1
  exact (Option.some.inj h1).symm
def ordT (ns : List Int) : List (List Int) := (List.range ns.length).map fun k : Nat => sortI (ns.drop (pos ns (k : Int) + 1))
theorem ordT_length (ns : List Int) : (ordT ns).length = ns.length := by unfold ordT; rw [List.length_map, List.length_range]
theorem ordT_at {ns : List Int} {a : Nat} (h : a < ns.length) : (ordT ns).getD a [] = sortI (ns.drop (pos ns (a : Int) + 1)) := by
  unfold ordT
  rw [List.getD_eq_getElem?_getD, List.getElem?_map, List.getElem?_eq_getElem (by rw [List.length_range]; exact h), List.getElem_range]
  rfl
structure Ord (n : Nat) (ns : List Int) : Prop where
  perm : ns.Perm (R n)
theorem Ord.len {n : Nat} {ns : List Int} (o : Ord n ns) : ns.length = n := by rw [o.perm.length_eq, R_length]
theorem Ord.nd {n : Nat} {ns : List Int} (o : Ord n ns) : ns.Nodup := o.perm.nodup_iff.mpr (R_nodup n)
theorem Ord.mem {n : Nat} {ns : List Int} (o : Ord n ns) {x : Int} : x ∈ ns ↔ 0 ≤ x ∧ x < n := by rw [o.perm.mem_iff, R_mem]
theorem Ord.beats {n : Nat} {ns : List Int} (o : Ord n ns) {a : Nat} (h : a < n) {x : Int} : x ∈ (ordT ns).getD a [] ↔ (0 ≤ x ∧ x < n) ∧ pos ns a < pos ns x := by
  rw [ordT_at (by rw [o.len]; exact h), (sortI_perm _).mem_iff, mem_behind o.nd, o.mem]
theorem sort_asc {ns : List Int} (nd : ns.Nodup) : (sortI ns).Pairwise (· < ·) := by
  have h1 := sortI_sorted ns
  have h2 : (sortI ns).Nodup := (sortI_perm ns).nodup_iff.mpr nd
  have h3 := h1.and h2
  exact h3.imp fun h => by have := h.1; have := h.2; omega
theorem Ord.tb {n : Nat} {ns : List Int} (o : Ord n ns) : Tb n (ordT ns) := by
  refine ⟨by rw [ordT_length, o.len], fun a ha => ?_, fun a ha x hx => ?_, fun a b ha hb => ?_⟩
  · rw [ordT_at (by rw [o.len]; exact ha)]
    exact sort_asc (List.Nodup.sublist (List.drop_sublist _ _) o.nd)
  · exact ((o.beats ha).mp hx).1
  · unfold dec
    by_cases e : a = b
    · rw [if_pos e]
      have z : ¬ (a : Int) ∈ (ordT ns).getD a [] := fun h => by
        have := ((o.beats ha).mp h).2
        omega
      rw [decide_eq_false z]
      rfl
    · rw [if_neg e]
      have ma : (a : Int) ∈ ns := o.mem.mpr (by omega)
      have mb : (b : Int) ∈ ns := o.mem.mpr (by omega)
      have ne : pos ns a ≠ pos ns b := fun z => by
        have := pos_inj ma mb z
        omega
      rcases Nat.lt_or_gt_of_ne ne with z | z
      · have h1 : (b : Int) ∈ (ordT ns).getD a [] := (o.beats ha).mpr ⟨by omega, z⟩
        have h2 : ¬ (a : Int) ∈ (ordT ns).getD b [] := fun h => by have := ((o.beats hb).mp h).2; omega
        rw [decide_eq_true h1, decide_eq_false h2]
        rfl
      · have h1 : ¬ (b : Int) ∈ (ordT ns).getD a [] := fun h => by have := ((o.beats ha).mp h).2; omega
        have h2 : (a : Int) ∈ (ordT ns).getD b [] := (o.beats hb).mpr ⟨by omega, z⟩
        rw [decide_eq_false h1, decide_eq_true h2]
        rfl
def g_tabOf : DRs := fun ds st Q => ∃ (n : Nat) (ns : List Int), ds = [rowD ns] ∧ Ord n ns ∧ n ≤ 60 ∧ Q (rowsD (ordT ns)) st
theorem ar_tabOf (ds : List D) (st : DSt) (Q : DK) (h : g_tabOf ds st Q) : ds.length = 1 := by
  obtain ⟨_, _, rfl, _⟩ := h
  rfl
theorem cutN (xs : List D) (k : Nat) : cutD xs (some (k : Int)) none = xs.drop k := by
  unfold cutD
  have z : HT.sIx xs.length 0 (some (k : Int)) = min k xs.length := HT.sIx_nat xs.length 0 k
  rw [z, HT.sIx_none]
  by_cases h : k ≤ xs.length
  · rw [Nat.min_eq_left h]
    exact List.take_of_length_le (by rw [List.length_drop]; omega)
  · rw [Nat.min_eq_right (by omega), List.drop_length, List.drop_eq_nil_of_le (by omega)]
    simp
theorem sem_tabOf (ds : List D) (st : DSt) (Q : DK) (h : g_tabOf ds st Q) : F_table_of_order { nx := fun _ st' => Rt st Q .non st', rt := Rt st Q } (startD 2 ds) st := by
  obtain ⟨n, ns, rfl, o, n60, q⟩ := h
  have st2 : startD 2 [rowD ns] = [some (.tup (ns.map D.int)), none] := rfl
  have big : (1000 : Nat) ≤ sizeLine := by decide
  have ln := o.len
  simp only [F_table_of_order, st2, e_var, e_C, e_op, e_neg, e_isN, e_notN, e_and, e_or, e_not, e_test, e_tAnd, e_tOr, e_tNot, e_tYes, e_if, e_aNil, e_aCons, e_tup, e_lst, e_lstN, e_len0, e_len1, e_len2, e_len3, e_len4, e_len5, e_cb, e_on1, e_on2, e_onI, e_onB, e_onO, e_onO0, e_onOO, e_I0, e_I, e_add, e_addT, e_addS, e_addL, e_addLR, e_addRL, e_addRR, e_mul, e_mulL, e_mulT, e_rev, e_revT, e_ix, e_eqI, e_eqS, e_eqB, e_neI, e_neS, e_neB, e_ltI, e_chain, e_len, e_abs, e_2I, e_tuple1, e_tuple2, e_tuple3, e_listT, e_listN, e_allR, e_seqT, e_seqK, e_seqL, e_isi, e_isB, e_notB, e_truth, e_next, e_seq, e_drop, e_ret, e_retN, e_ifS, e_set, e_asg, e_par, e_nm, e_gsN, e_gsC, e_gTpK, e_gTpL, e_sum, e_maxL, e_minL, e_maxDef, e_int, e_intB, e_aug, e_on3, e_par3, e_newK, e_getK, e_keyI, e_keyS, e_inK, e_ninK, e_putK, e_lenK, e_lstS, e_seqX, e_gTpT, e_oN, e_oS, e_sl, e_slT, e_slL, e_finT, e_finN, e_index, e_idxT, e_idxL, e_mIx, e_ixST, e_ixSL, e_mtL, e_w, e_w1, e_w2, e_wE, e_wZ, e_itK, e_itT, e_itL, e_itT2, e_itL2, e_lc, e_for, e_wipe0, e_wipe, e_okI, e_okR, e_gSb, List.getElem?_cons_zero, List.getElem?_cons_succ, List.set_cons_zero, List.set_cons_succ, List.length_map, rgD_length, Int.toNat_natCast]
  refine ⟨⟨by omega, by omega⟩, by omega, lc_rng (fun k => rowD (sortI (ns.drop (pos ns (k : Int) + 1)))) (fun k lt Q' q' => ?_) ?_⟩
  · have mk : (k : Int) ∈ ns := o.mem.mpr (by omega)
    simp only [e_var, e_C, e_op, e_neg, e_isN, e_notN, e_and, e_or, e_not, e_test, e_tAnd, e_tOr, e_tNot, e_tYes, e_if, e_aNil, e_aCons, e_tup, e_lst, e_lstN, e_len0, e_len1, e_len2, e_len3, e_len4, e_len5, e_cb, e_on1, e_on2, e_onI, e_onB, e_onO, e_onO0, e_onOO, e_I0, e_I, e_add, e_addT, e_addS, e_addL, e_addLR, e_addRL, e_addRR, e_mul, e_mulL, e_mulT, e_rev, e_revT, e_ix, e_eqI, e_eqS, e_eqB, e_neI, e_neS, e_neB, e_ltI, e_chain, e_len, e_abs, e_2I, e_tuple1, e_tuple2, e_tuple3, e_listT, e_listN, e_allR, e_seqT, e_seqK, e_seqL, e_isi, e_isB, e_notB, e_truth, e_next, e_seq, e_drop, e_ret, e_retN, e_ifS, e_set, e_asg, e_par, e_nm, e_gsN, e_gsC, e_gTpK, e_gTpL, e_sum, e_maxL, e_minL, e_maxDef, e_int, e_intB, e_aug, e_on3, e_par3, e_newK, e_getK, e_keyI, e_keyS, e_inK, e_ninK, e_putK, e_lenK, e_lstS, e_seqX, e_gTpT, e_oN, e_oS, e_sl, e_slT, e_slL, e_finT, e_finN, e_index, e_idxT, e_idxL, e_mIx, e_ixST, e_ixSL, e_mtL, e_w, e_w1, e_w2, e_wE, e_wZ, e_itK, e_itT, e_itL, e_itT2, e_itL2, e_lc, e_for, e_wipe0, e_wipe, e_okI, e_okR, e_gSb, List.getElem?_cons_zero, List.getElem?_cons_succ, List.set_cons_zero, List.set_cons_succ, intsD_ints, (pos_at mk).2, true_and]
    have e : ((pos ns (k : Int) : Nat) : Int) + 1 = ((pos ns (k : Int) + 1 : Nat) : Int) := by omega
    rw [e, cutN, ← List.map_drop]
    refine sort_ev rfl (by rw [List.length_drop]; omega) ?_
    exact q'
  · refine tuple_end (.inl ?_)
    have e : (List.range ns.length).map (fun k : Nat => rowD (sortI (ns.drop (pos ns (k : Int) + 1)))) = (ordT ns).map rowD := by unfold ordT; rw [List.map_map]; rfl
    rw [e]
    exact q
def g_ruleOf : DRs := fun ds st Q => ∃ (n : Nat) (os : List (List Int)), ds = [rowsD os] ∧ (∀ ns ∈ os, Ord n ns) ∧ n ≤ 60 ∧ os.length ≤ 60 ∧ Q (tabsD (os.map ordT)) st
theorem ar_ruleOf (ds : List D) (st : DSt) (Q : DK) (h : g_ruleOf ds st Q) : ds.length = 1 := by
  obtain ⟨_, _, rfl, _⟩ := h
  rfl
theorem sem_ruleOf (ds : List D) (st : DSt) (Q : DK) (h : g_ruleOf ds st Q) : F_rule_of_orders g_tabOf { nx := fun _ st' => Rt st Q .non st', rt := Rt st Q } (startD 2 ds) st := by
  obtain ⟨n, os, rfl, oo, n60, l60, q⟩ := h
  have st2 : startD 2 [rowsD os] = [some (.tup (os.map rowD)), none] := rfl
  have big : (1000 : Nat) ≤ sizeLine := by decide
  simp only [F_rule_of_orders, st2, e_var, e_C, e_op, e_neg, e_isN, e_notN, e_and, e_or, e_not, e_test, e_tAnd, e_tOr, e_tNot, e_tYes, e_if, e_aNil, e_aCons, e_tup, e_lst, e_lstN, e_len0, e_len1, e_len2, e_len3, e_len4, e_len5, e_cb, e_on1, e_on2, e_onI, e_onB, e_onO, e_onO0, e_onOO, e_I0, e_I, e_add, e_addT, e_addS, e_addL, e_addLR, e_addRL, e_addRR, e_mul, e_mulL, e_mulT, e_rev, e_revT, e_ix, e_eqI, e_eqS, e_eqB, e_neI, e_neS, e_neB, e_ltI, e_chain, e_len, e_abs, e_2I, e_tuple1, e_tuple2, e_tuple3, e_listT, e_listN, e_allR, e_seqT, e_seqK, e_seqL, e_isi, e_isB, e_notB, e_truth, e_next, e_seq, e_drop, e_ret, e_retN, e_ifS, e_set, e_asg, e_par, e_nm, e_gsN, e_gsC, e_gTpK, e_gTpL, e_sum, e_maxL, e_minL, e_maxDef, e_int, e_intB, e_aug, e_on3, e_par3, e_newK, e_getK, e_keyI, e_keyS, e_inK, e_ninK, e_putK, e_lenK, e_lstS, e_seqX, e_gTpT, e_oN, e_oS, e_sl, e_slT, e_slL, e_finT, e_finN, e_index, e_idxT, e_idxL, e_mIx, e_ixST, e_ixSL, e_mtL, e_w, e_w1, e_w2, e_wE, e_wZ, e_itK, e_itT, e_itL, e_itT2, e_itL2, e_lc, e_for, e_wipe0, e_wipe, e_okI, e_okR, e_gSb, List.getElem?_cons_zero, List.getElem?_cons_succ, List.set_cons_zero, List.set_cons_succ, List.length_map]
  refine ⟨by omega, compL_gen rowD (fun ns => rowsD (ordT ns)) os [] (fun ns hn Q' k => k _ fun Q2 q2 => ?_) ?_⟩
  · simp only [e_var, e_C, e_op, e_neg, e_isN, e_notN, e_and, e_or, e_not, e_test, e_tAnd, e_tOr, e_tNot, e_tYes, e_if, e_aNil, e_aCons, e_tup, e_lst, e_lstN, e_len0, e_len1, e_len2, e_len3, e_len4, e_len5, e_cb, e_on1, e_on2, e_onI, e_onB, e_onO, e_onO0, e_onOO, e_I0, e_I, e_add, e_addT, e_addS, e_addL, e_addLR, e_addRL, e_addRR, e_mul, e_mulL, e_mulT, e_rev, e_revT, e_ix, e_eqI, e_eqS, e_eqB, e_neI, e_neS, e_neB, e_ltI, e_chain, e_len, e_abs, e_2I, e_tuple1, e_tuple2, e_tuple3, e_listT, e_listN, e_allR, e_seqT, e_seqK, e_seqL, e_isi, e_isB, e_notB, e_truth, e_next, e_seq, e_drop, e_ret, e_retN, e_ifS, e_set, e_asg, e_par, e_nm, e_gsN, e_gsC, e_gTpK, e_gTpL, e_sum, e_maxL, e_minL, e_maxDef, e_int, e_intB, e_aug, e_on3, e_par3, e_newK, e_getK, e_keyI, e_keyS, e_inK, e_ninK, e_putK, e_lenK, e_lstS, e_seqX, e_gTpT, e_oN, e_oS, e_sl, e_slT, e_slL, e_finT, e_finN, e_index, e_idxT, e_idxL, e_mIx, e_ixST, e_ixSL, e_mtL, e_w, e_w1, e_w2, e_wE, e_wZ, e_itK, e_itT, e_itL, e_itT2, e_itL2, e_lc, e_for, e_wipe0, e_wipe, e_okI, e_okR, e_gSb, List.getElem?_cons_zero, List.getElem?_cons_succ, List.set_cons_zero, List.set_cons_succ]
    exact ⟨n, ns, rfl, oo ns hn, n60, q2⟩
  · refine tuple_end (.inl ?_)
    rw [List.nil_append]
    unfold tabsD at q
    rw [List.map_map] at q
    exact q
end DL
namespace DL
open PySem PySem.Spec PyProof.Rows L2 LamX PySem.W SL
def Ring (t : List (List Int)) (a b c : Int) : Prop := 0 ≤ a ∧ a < t.length ∧ b ∈ t.getD a.toNat [] ∧ c ∈ t.getD b.toNat [] ∧ a ∈ t.getD c.toNat []
def noRing (t : List (List Int)) : Bool := (List.range t.length).all fun a => (t.getD a []).all fun b => (t.getD b.toNat []).all fun c => !decide ((a : Int) ∈ t.getD c.toNat [])
theorem noRing_iff {t : List (List Int)} : noRing t = true ↔ ∀ a b c, ¬ Ring t a b c := by
  unfold noRing
  simp only [List.all_eq_true, List.mem_range, Bool.not_eq_true', decide_eq_false_iff_not]
  constructor
  · rintro h a b c ⟨a0, a1, hb, hc, ha⟩
    refine h a.toNat (by omega) b hb c hc ?_
    rw [Int.toNat_of_nonneg a0]
    exact ha
  · intro h a la b hb c hc ha
    exact h a b c ⟨by omega, by omega, by simpa using hb, hc, ha⟩
def g_ring : DRs := fun ds st Q => ∃ (n : Nat) (ts : List (List (List Int))) (i : Nat) (t : List (List Int)), ds = [tabsD ts, .int i] ∧ ts[i]? = some t ∧ Tb n t ∧ n ≤ 60 ∧ (noRing t = true → Q .non st) ∧ ∀ a b c, Ring t a b c → Q (.tup [.int a, .int b, .int c]) st
theorem ar_ring (ds : List D) (st : DSt) (Q : DK) (h : g_ring ds st Q) : ds.length = 2 := by
  obtain ⟨_, _, _, _, rfl, _⟩ := h
  rfl
theorem Tb.at_ {n : Nat} {t : List (List Int)} (tb : Tb n t) {x : Int} (h0 : 0 ≤ x) (h1 : x < n) : atI (t.map rowD) x = some (rowD (t.getD x.toNat [])) := by
  have z := rows_at (nss := t) (a := x.toNat) (by rw [tb.len]; omega)
  rw [Int.toNat_of_nonneg h0] at z
  exact z
theorem Tb.mem {n : Nat} {t : List (List Int)} (tb : Tb n t) {x y : Int} (h0 : 0 ≤ x) (h1 : x < n) (h : y ∈ t.getD x.toNat []) : 0 ≤ y ∧ y < n := tb.inr x.toNat (by omega) y h
theorem sem_ring (ds : List D) (st : DSt) (Q : DK) (h : g_ring ds st Q) : F_ring_at { nx := fun _ st' => Rt st Q .non st', rt := Rt st Q } (startD 6 ds) st := by
  obtain ⟨n, ts, i, t, rfl, hi, tb, n60, q0, q1⟩ := h
  have st6 : startD 6 [tabsD ts, D.int (i : Nat)] = [some (.tup (ts.map rowsD)), some (.int i), none, none, none, none] := rfl
  have at_ : atI (ts.map rowsD) (i : Int) = some (rowsD t) := at_map hi
  simp only [F_ring_at, st6, e_var, e_C, e_op, e_neg, e_isN, e_notN, e_and, e_or, e_not, e_test, e_tAnd, e_tOr, e_tNot, e_tYes, e_if, e_aNil, e_aCons, e_tup, e_lst, e_lstN, e_len0, e_len1, e_len2, e_len3, e_len4, e_len5, e_cb, e_on1, e_on2, e_onI, e_onB, e_onO, e_onO0, e_onOO, e_I0, e_I, e_add, e_addT, e_addS, e_addL, e_addLR, e_addRL, e_addRR, e_mul, e_mulL, e_mulT, e_rev, e_revT, e_ix, e_eqI, e_eqS, e_eqB, e_neI, e_neS, e_neB, e_ltI, e_chain, e_len, e_abs, e_2I, e_tuple1, e_tuple2, e_tuple3, e_listT, e_listN, e_allR, e_seqT, e_seqK, e_seqL, e_isi, e_isB, e_notB, e_truth, e_next, e_seq, e_drop, e_ret, e_retN, e_ifS, e_set, e_asg, e_par, e_nm, e_gsN, e_gsC, e_gTpK, e_gTpL, e_sum, e_maxL, e_minL, e_maxDef, e_int, e_intB, e_aug, e_on3, e_par3, e_newK, e_getK, e_keyI, e_keyS, e_inK, e_ninK, e_putK, e_lenK, e_lstS, e_seqX, e_gTpT, e_oN, e_oS, e_sl, e_slT, e_slL, e_finT, e_finN, e_index, e_idxT, e_idxL, e_mIx, e_ixST, e_ixSL, e_mtL, e_w, e_w1, e_w2, e_wE, e_wZ, e_itK, e_itT, e_itL, e_itT2, e_itL2, e_lc, e_for, e_wipe0, e_wipe, e_okI, e_okR, e_gSb, List.getElem?_cons_zero, List.getElem?_cons_succ, List.set_cons_zero, List.set_cons_succ, at_]
  unfold rowsD
  simp only [e_var, e_C, e_op, e_neg, e_isN, e_notN, e_and, e_or, e_not, e_test, e_tAnd, e_tOr, e_tNot, e_tYes, e_if, e_aNil, e_aCons, e_tup, e_lst, e_lstN, e_len0, e_len1, e_len2, e_len3, e_len4, e_len5, e_cb, e_on1, e_on2, e_onI, e_onB, e_onO, e_onO0, e_onOO, e_I0, e_I, e_add, e_addT, e_addS, e_addL, e_addLR, e_addRL, e_addRR, e_mul, e_mulL, e_mulT, e_rev, e_revT, e_ix, e_eqI, e_eqS, e_eqB, e_neI, e_neS, e_neB, e_ltI, e_chain, e_len, e_abs, e_2I, e_tuple1, e_tuple2, e_tuple3, e_listT, e_listN, e_allR, e_seqT, e_seqK, e_seqL, e_isi, e_isB, e_notB, e_truth, e_next, e_seq, e_drop, e_ret, e_retN, e_ifS, e_set, e_asg, e_par, e_nm, e_gsN, e_gsC, e_gTpK, e_gTpL, e_sum, e_maxL, e_minL, e_maxDef, e_int, e_intB, e_aug, e_on3, e_par3, e_newK, e_getK, e_keyI, e_keyS, e_inK, e_ninK, e_putK, e_lenK, e_lstS, e_seqX, e_gTpT, e_oN, e_oS, e_sl, e_slT, e_slL, e_finT, e_finN, e_index, e_idxT, e_idxL, e_mIx, e_ixST, e_ixSL, e_mtL, e_w, e_w1, e_w2, e_wE, e_wZ, e_itK, e_itT, e_itL, e_itT2, e_itL2, e_lc, e_for, e_wipe0, e_wipe, e_okI, e_okR, e_gSb, List.getElem?_cons_zero, List.getElem?_cons_succ, List.set_cons_zero, List.set_cons_succ, List.length_map, tb.len, Int.toNat_natCast]
  refine ⟨⟨by omega, by omega⟩, ?_⟩
  refine for_inv (fun ds r st' => ∃ (k : Nat) (x3 x4 x5 : Option D), ds = (rgD 0 n).drop k ∧ r = [some (.tup (ts.map rowsD)), some (.int i), some (.tup (t.map rowD)), x3, x4, x5] ∧ st = st' ∧ ∀ a b c, a < (k : Int) → ¬ Ring t a b c) ?_ ?_ _ _ _ ⟨0, _, _, _, rfl, rfl, rfl, fun a b c lt h => by have := h.1; omega⟩
  · rintro d ds r st' N hN ⟨k, x3, x4, x5, e, rfl, rfl, no⟩
    obtain ⟨ek, lk, e2⟩ := drop_cons e.symm
    obtain ⟨lt, rfl⟩ := rgD_get ek
    have tr := tb.at_ (x := (0 : Int) + (k : Nat)) (by omega) (by omega)
    simp only [e_var, e_C, e_op, e_neg, e_isN, e_notN, e_and, e_or, e_not, e_test, e_tAnd, e_tOr, e_tNot, e_tYes, e_if, e_aNil, e_aCons, e_tup, e_lst, e_lstN, e_len0, e_len1, e_len2, e_len3, e_len4, e_len5, e_cb, e_on1, e_on2, e_onI, e_onB, e_onO, e_onO0, e_onOO, e_I0, e_I, e_add, e_addT, e_addS, e_addL, e_addLR, e_addRL, e_addRR, e_mul, e_mulL, e_mulT, e_rev, e_revT, e_ix, e_eqI, e_eqS, e_eqB, e_neI, e_neS, e_neB, e_ltI, e_chain, e_len, e_abs, e_2I, e_tuple1, e_tuple2, e_tuple3, e_listT, e_listN, e_allR, e_seqT, e_seqK, e_seqL, e_isi, e_isB, e_notB, e_truth, e_next, e_seq, e_drop, e_ret, e_retN, e_ifS, e_set, e_asg, e_par, e_nm, e_gsN, e_gsC, e_gTpK, e_gTpL, e_sum, e_maxL, e_minL, e_maxDef, e_int, e_intB, e_aug, e_on3, e_par3, e_newK, e_getK, e_keyI, e_keyS, e_inK, e_ninK, e_putK, e_lenK, e_lstS, e_seqX, e_gTpT, e_oN, e_oS, e_sl, e_slT, e_slL, e_finT, e_finN, e_index, e_idxT, e_idxL, e_mIx, e_ixST, e_ixSL, e_mtL, e_w, e_w1, e_w2, e_wE, e_wZ, e_itK, e_itT, e_itL, e_itT2, e_itL2, e_lc, e_for, e_wipe0, e_wipe, e_okI, e_okR, e_gSb, List.getElem?_cons_zero, List.getElem?_cons_succ, List.set_cons_zero, List.set_cons_succ, tr]
    unfold rowD
    simp only [e_var, e_C, e_op, e_neg, e_isN, e_notN, e_and, e_or, e_not, e_test, e_tAnd, e_tOr, e_tNot, e_tYes, e_if, e_aNil, e_aCons, e_tup, e_lst, e_lstN, e_len0, e_len1, e_len2, e_len3, e_len4, e_len5, e_cb, e_on1, e_on2, e_onI, e_onB, e_onO, e_onO0, e_onOO, e_I0, e_I, e_add, e_addT, e_addS, e_addL, e_addLR, e_addRL, e_addRR, e_mul, e_mulL, e_mulT, e_rev, e_revT, e_ix, e_eqI, e_eqS, e_eqB, e_neI, e_neS, e_neB, e_ltI, e_chain, e_len, e_abs, e_2I, e_tuple1, e_tuple2, e_tuple3, e_listT, e_listN, e_allR, e_seqT, e_seqK, e_seqL, e_isi, e_isB, e_notB, e_truth, e_next, e_seq, e_drop, e_ret, e_retN, e_ifS, e_set, e_asg, e_par, e_nm, e_gsN, e_gsC, e_gTpK, e_gTpL, e_sum, e_maxL, e_minL, e_maxDef, e_int, e_intB, e_aug, e_on3, e_par3, e_newK, e_getK, e_keyI, e_keyS, e_inK, e_ninK, e_putK, e_lenK, e_lstS, e_seqX, e_gTpT, e_oN, e_oS, e_sl, e_slT, e_slL, e_finT, e_finN, e_index, e_idxT, e_idxL, e_mIx, e_ixST, e_ixSL, e_mtL, e_w, e_w1, e_w2, e_wE, e_wZ, e_itK, e_itT, e_itL, e_itT2, e_itL2, e_lc, e_for, e_wipe0, e_wipe, e_okI, e_okR, e_gSb, List.getElem?_cons_zero, List.getElem?_cons_succ, List.set_cons_zero, List.set_cons_succ]
    refine for_inv (fun ds r st' => ∃ (m : List Int) (x4 x5 : Option D), ds = m.map D.int ∧ (∀ x ∈ m, x ∈ t.getD k []) ∧ r = [some (.tup (ts.map rowsD)), some (.int i), some (.tup (t.map rowD)), some (.int (0 + (k : Nat))), x4, x5] ∧ st = st' ∧ ∀ b c, b ∈ t.getD k [] → b ∉ m → ¬ Ring t k b c) ?_ ?_ _ _ _ ⟨_, _, _, rfl, fun x hx => by simpa using hx, rfl, rfl, fun b c hb nb => absurd (by simpa using hb) nb⟩
    · rintro d ds r st' N2 hN2 ⟨m, x4, x5, e, sub, rfl, rfl, no2⟩
      cases m with
      | nil => cases e
      | cons b m =>
        cases e
        have hb := sub b List.mem_cons_self
        have rb := tb.inr k lt b hb
        have trb := tb.at_ (x := b) rb.1 rb.2
        simp only [e_var, e_C, e_op, e_neg, e_isN, e_notN, e_and, e_or, e_not, e_test, e_tAnd, e_tOr, e_tNot, e_tYes, e_if, e_aNil, e_aCons, e_tup, e_lst, e_lstN, e_len0, e_len1, e_len2, e_len3, e_len4, e_len5, e_cb, e_on1, e_on2, e_onI, e_onB, e_onO, e_onO0, e_onOO, e_I0, e_I, e_add, e_addT, e_addS, e_addL, e_addLR, e_addRL, e_addRR, e_mul, e_mulL, e_mulT, e_rev, e_revT, e_ix, e_eqI, e_eqS, e_eqB, e_neI, e_neS, e_neB, e_ltI, e_chain, e_len, e_abs, e_2I, e_tuple1, e_tuple2, e_tuple3, e_listT, e_listN, e_allR, e_seqT, e_seqK, e_seqL, e_isi, e_isB, e_notB, e_truth, e_next, e_seq, e_drop, e_ret, e_retN, e_ifS, e_set, e_asg, e_par, e_nm, e_gsN, e_gsC, e_gTpK, e_gTpL, e_sum, e_maxL, e_minL, e_maxDef, e_int, e_intB, e_aug, e_on3, e_par3, e_newK, e_getK, e_keyI, e_keyS, e_inK, e_ninK, e_putK, e_lenK, e_lstS, e_seqX, e_gTpT, e_oN, e_oS, e_sl, e_slT, e_slL, e_finT, e_finN, e_index, e_idxT, e_idxL, e_mIx, e_ixST, e_ixSL, e_mtL, e_w, e_w1, e_w2, e_wE, e_wZ, e_itK, e_itT, e_itL, e_itT2, e_itL2, e_lc, e_for, e_wipe0, e_wipe, e_okI, e_okR, e_gSb, List.getElem?_cons_zero, List.getElem?_cons_succ, List.set_cons_zero, List.set_cons_succ, trb]
        unfold rowD
        simp only [e_var, e_C, e_op, e_neg, e_isN, e_notN, e_and, e_or, e_not, e_test, e_tAnd, e_tOr, e_tNot, e_tYes, e_if, e_aNil, e_aCons, e_tup, e_lst, e_lstN, e_len0, e_len1, e_len2, e_len3, e_len4, e_len5, e_cb, e_on1, e_on2, e_onI, e_onB, e_onO, e_onO0, e_onOO, e_I0, e_I, e_add, e_addT, e_addS, e_addL, e_addLR, e_addRL, e_addRR, e_mul, e_mulL, e_mulT, e_rev, e_revT, e_ix, e_eqI, e_eqS, e_eqB, e_neI, e_neS, e_neB, e_ltI, e_chain, e_len, e_abs, e_2I, e_tuple1, e_tuple2, e_tuple3, e_listT, e_listN, e_allR, e_seqT, e_seqK, e_seqL, e_isi, e_isB, e_notB, e_truth, e_next, e_seq, e_drop, e_ret, e_retN, e_ifS, e_set, e_asg, e_par, e_nm, e_gsN, e_gsC, e_gTpK, e_gTpL, e_sum, e_maxL, e_minL, e_maxDef, e_int, e_intB, e_aug, e_on3, e_par3, e_newK, e_getK, e_keyI, e_keyS, e_inK, e_ninK, e_putK, e_lenK, e_lstS, e_seqX, e_gTpT, e_oN, e_oS, e_sl, e_slT, e_slL, e_finT, e_finN, e_index, e_idxT, e_idxL, e_mIx, e_ixST, e_ixSL, e_mtL, e_w, e_w1, e_w2, e_wE, e_wZ, e_itK, e_itT, e_itL, e_itT2, e_itL2, e_lc, e_for, e_wipe0, e_wipe, e_okI, e_okR, e_gSb, List.getElem?_cons_zero, List.getElem?_cons_succ, List.set_cons_zero, List.set_cons_succ]
        refine for_inv (fun ds r st' => ∃ (m2 : List Int) (x5 : Option D), ds = m2.map D.int ∧ (∀ x ∈ m2, x ∈ t.getD b.toNat []) ∧ r = [some (.tup (ts.map rowsD)), some (.int i), some (.tup (t.map rowD)), some (.int (0 + (k : Nat))), some (.int b), x5] ∧ st = st' ∧ ∀ c, c ∈ t.getD b.toNat [] → c ∉ m2 → ¬ Ring t k b c) ?_ ?_ _ _ _ ⟨_, _, rfl, fun x hx => hx, rfl, rfl, fun c hc nc => absurd hc nc⟩
        · rintro d ds r st' N3 hN3 ⟨m2, x5, e, sub2, rfl, rfl, no3⟩
          cases m2 with
          | nil => cases e
          | cons c m2 =>
            cases e
            have hc := sub2 c List.mem_cons_self
            have rc := tb.mem rb.1 rb.2 hc
            have trc := tb.at_ (x := c) rc.1 rc.2
            simp only [e_var, e_C, e_op, e_neg, e_isN, e_notN, e_and, e_or, e_not, e_test, e_tAnd, e_tOr, e_tNot, e_tYes, e_if, e_aNil, e_aCons, e_tup, e_lst, e_lstN, e_len0, e_len1, e_len2, e_len3, e_len4, e_len5, e_cb, e_on1, e_on2, e_onI, e_onB, e_onO, e_onO0, e_onOO, e_I0, e_I, e_add, e_addT, e_addS, e_addL, e_addLR, e_addRL, e_addRR, e_mul, e_mulL, e_mulT, e_rev, e_revT, e_ix, e_eqI, e_eqS, e_eqB, e_neI, e_neS, e_neB, e_ltI, e_chain, e_len, e_abs, e_2I, e_tuple1, e_tuple2, e_tuple3, e_listT, e_listN, e_allR, e_seqT, e_seqK, e_seqL, e_isi, e_isB, e_notB, e_truth, e_next, e_seq, e_drop, e_ret, e_retN, e_ifS, e_set, e_asg, e_par, e_nm, e_gsN, e_gsC, e_gTpK, e_gTpL, e_sum, e_maxL, e_minL, e_maxDef, e_int, e_intB, e_aug, e_on3, e_par3, e_newK, e_getK, e_keyI, e_keyS, e_inK, e_ninK, e_putK, e_lenK, e_lstS, e_seqX, e_gTpT, e_oN, e_oS, e_sl, e_slT, e_slL, e_finT, e_finN, e_index, e_idxT, e_idxL, e_mIx, e_ixST, e_ixSL, e_mtL, e_w, e_w1, e_w2, e_wE, e_wZ, e_itK, e_itT, e_itL, e_itT2, e_itL2, e_lc, e_for, e_wipe0, e_wipe, e_okI, e_okR, e_gSb, List.getElem?_cons_zero, List.getElem?_cons_succ, List.set_cons_zero, List.set_cons_succ, trc]
            refine row_in ?_
            simp only [e_var, e_C, e_op, e_neg, e_isN, e_notN, e_and, e_or, e_not, e_test, e_tAnd, e_tOr, e_tNot, e_tYes, e_if, e_aNil, e_aCons, e_tup, e_lst, e_lstN, e_len0, e_len1, e_len2, e_len3, e_len4, e_len5, e_cb, e_on1, e_on2, e_onI, e_onB, e_onO, e_onO0, e_onOO, e_I0, e_I, e_add, e_addT, e_addS, e_addL, e_addLR, e_addRL, e_addRR, e_mul, e_mulL, e_mulT, e_rev, e_revT, e_ix, e_eqI, e_eqS, e_eqB, e_neI, e_neS, e_neB, e_ltI, e_chain, e_len, e_abs, e_2I, e_tuple1, e_tuple2, e_tuple3, e_listT, e_listN, e_allR, e_seqT, e_seqK, e_seqL, e_isi, e_isB, e_notB, e_truth, e_next, e_seq, e_drop, e_ret, e_retN, e_ifS, e_set, e_asg, e_par, e_nm, e_gsN, e_gsC, e_gTpK, e_gTpL, e_sum, e_maxL, e_minL, e_maxDef, e_int, e_intB, e_aug, e_on3, e_par3, e_newK, e_getK, e_keyI, e_keyS, e_inK, e_ninK, e_putK, e_lenK, e_lstS, e_seqX, e_gTpT, e_oN, e_oS, e_sl, e_slT, e_slL, e_finT, e_finN, e_index, e_idxT, e_idxL, e_mIx, e_ixST, e_ixSL, e_mtL, e_w, e_w1, e_w2, e_wE, e_wZ, e_itK, e_itT, e_itL, e_itT2, e_itL2, e_lc, e_for, e_wipe0, e_wipe, e_okI, e_okR, e_gSb, List.getElem?_cons_zero, List.getElem?_cons_succ, List.set_cons_zero, List.set_cons_succ]
            by_cases hr : (0 + (k : Nat) : Int) ∈ t.getD c.toNat []
            · refine iteT' (decide_eq_true hr) (.inl (q1 _ _ _ ⟨by omega, by rw [tb.len]; omega, ?_, hc, hr⟩))
              rw [Int.zero_add, Int.toNat_natCast]
              exact hb
            · refine iteF' (decide_eq_false hr) (hN3 _ _ (.inl ⟨m2, _, rfl, fun x hx => sub2 x (List.mem_cons_of_mem _ hx), rfl, rfl, fun c' hc' nc' => ?_⟩))
              by_cases z : c' = c
              · rintro ⟨_, _, _, _, h5⟩
                rw [z] at h5
                exact hr (by rw [Int.zero_add]; exact h5)
              · exact no3 c' hc' (fun h => by
                  rcases List.mem_cons.mp h with w | w
                  · exact z w
                  · exact nc' w)
        · rintro r st' ⟨m2, x5, e, sub2, rfl, rfl, no3⟩
          have e0 : m2 = [] := by cases m2 with | nil => rfl | cons _ _ => cases e
          subst e0
          simp only [e_var, e_C, e_op, e_neg, e_isN, e_notN, e_and, e_or, e_not, e_test, e_tAnd, e_tOr, e_tNot, e_tYes, e_if, e_aNil, e_aCons, e_tup, e_lst, e_lstN, e_len0, e_len1, e_len2, e_len3, e_len4, e_len5, e_cb, e_on1, e_on2, e_onI, e_onB, e_onO, e_onO0, e_onOO, e_I0, e_I, e_add, e_addT, e_addS, e_addL, e_addLR, e_addRL, e_addRR, e_mul, e_mulL, e_mulT, e_rev, e_revT, e_ix, e_eqI, e_eqS, e_eqB, e_neI, e_neS, e_neB, e_ltI, e_chain, e_len, e_abs, e_2I, e_tuple1, e_tuple2, e_tuple3, e_listT, e_listN, e_allR, e_seqT, e_seqK, e_seqL, e_isi, e_isB, e_notB, e_truth, e_next, e_seq, e_drop, e_ret, e_retN, e_ifS, e_set, e_asg, e_par, e_nm, e_gsN, e_gsC, e_gTpK, e_gTpL, e_sum, e_maxL, e_minL, e_maxDef, e_int, e_intB, e_aug, e_on3, e_par3, e_newK, e_getK, e_keyI, e_keyS, e_inK, e_ninK, e_putK, e_lenK, e_lstS, e_seqX, e_gTpT, e_oN, e_oS, e_sl, e_slT, e_slL, e_finT, e_finN, e_index, e_idxT, e_idxL, e_mIx, e_ixST, e_ixSL, e_mtL, e_w, e_w1, e_w2, e_wE, e_wZ, e_itK, e_itT, e_itL, e_itT2, e_itL2, e_lc, e_for, e_wipe0, e_wipe, e_okI, e_okR, e_gSb, List.getElem?_cons_zero, List.getElem?_cons_succ, List.set_cons_zero, List.set_cons_succ]
          refine hN2 _ _ (.inl ⟨m, _, _, rfl, fun x hx => sub x (List.mem_cons_of_mem _ hx), rfl, rfl, fun b' c hb' nb' => ?_⟩)
          by_cases z : b' = b
          · intro h
            have h4 := h.2.2.2.1
            rw [z] at h h4
            exact no3 c h4 (by simp) h
          · exact no2 b' c hb' (fun h => by
              rcases List.mem_cons.mp h with w | w
              · exact z w
              · exact nb' w)
    · rintro r st' ⟨m, x4, x5, e, sub, rfl, rfl, no2⟩
      have e0 : m = [] := by cases m with | nil => rfl | cons _ _ => cases e
      subst e0
      simp only [e_var, e_C, e_op, e_neg, e_isN, e_notN, e_and, e_or, e_not, e_test, e_tAnd, e_tOr, e_tNot, e_tYes, e_if, e_aNil, e_aCons, e_tup, e_lst, e_lstN, e_len0, e_len1, e_len2, e_len3, e_len4, e_len5, e_cb, e_on1, e_on2, e_onI, e_onB, e_onO, e_onO0, e_onOO, e_I0, e_I, e_add, e_addT, e_addS, e_addL, e_addLR, e_addRL, e_addRR, e_mul, e_mulL, e_mulT, e_rev, e_revT, e_ix, e_eqI, e_eqS, e_eqB, e_neI, e_neS, e_neB, e_ltI, e_chain, e_len, e_abs, e_2I, e_tuple1, e_tuple2, e_tuple3, e_listT, e_listN, e_allR, e_seqT, e_seqK, e_seqL, e_isi, e_isB, e_notB, e_truth, e_next, e_seq, e_drop, e_ret, e_retN, e_ifS, e_set, e_asg, e_par, e_nm, e_gsN, e_gsC, e_gTpK, e_gTpL, e_sum, e_maxL, e_minL, e_maxDef, e_int, e_intB, e_aug, e_on3, e_par3, e_newK, e_getK, e_keyI, e_keyS, e_inK, e_ninK, e_putK, e_lenK, e_lstS, e_seqX, e_gTpT, e_oN, e_oS, e_sl, e_slT, e_slL, e_finT, e_finN, e_index, e_idxT, e_idxL, e_mIx, e_ixST, e_ixSL, e_mtL, e_w, e_w1, e_w2, e_wE, e_wZ, e_itK, e_itT, e_itL, e_itT2, e_itL2, e_lc, e_for, e_wipe0, e_wipe, e_okI, e_okR, e_gSb, List.getElem?_cons_zero, List.getElem?_cons_succ, List.set_cons_zero, List.set_cons_succ]
      refine hN _ _ (.inl ⟨k + 1, _, _, _, e2.symm, rfl, rfl, fun a b c la h => ?_⟩)
      by_cases z : a = k
      · subst z
        have h3 := h.2.2.1
        rw [Int.toNat_natCast] at h3
        exact no2 b c h3 (by simp) h
      · exact no a b c (by omega) h
  · rintro r st' ⟨k, x3, x4, x5, e, rfl, rfl, no⟩
    have lk : n ≤ k := by
      have := List.drop_eq_nil_iff.mp e.symm
      rw [rgD_length] at this
      exact this
    simp only [e_var, e_C, e_op, e_neg, e_isN, e_notN, e_and, e_or, e_not, e_test, e_tAnd, e_tOr, e_tNot, e_tYes, e_if, e_aNil, e_aCons, e_tup, e_lst, e_lstN, e_len0, e_len1, e_len2, e_len3, e_len4, e_len5, e_cb, e_on1, e_on2, e_onI, e_onB, e_onO, e_onO0, e_onOO, e_I0, e_I, e_add, e_addT, e_addS, e_addL, e_addLR, e_addRL, e_addRR, e_mul, e_mulL, e_mulT, e_rev, e_revT, e_ix, e_eqI, e_eqS, e_eqB, e_neI, e_neS, e_neB, e_ltI, e_chain, e_len, e_abs, e_2I, e_tuple1, e_tuple2, e_tuple3, e_listT, e_listN, e_allR, e_seqT, e_seqK, e_seqL, e_isi, e_isB, e_notB, e_truth, e_next, e_seq, e_drop, e_ret, e_retN, e_ifS, e_set, e_asg, e_par, e_nm, e_gsN, e_gsC, e_gTpK, e_gTpL, e_sum, e_maxL, e_minL, e_maxDef, e_int, e_intB, e_aug, e_on3, e_par3, e_newK, e_getK, e_keyI, e_keyS, e_inK, e_ninK, e_putK, e_lenK, e_lstS, e_seqX, e_gTpT, e_oN, e_oS, e_sl, e_slT, e_slL, e_finT, e_finN, e_index, e_idxT, e_idxL, e_mIx, e_ixST, e_ixSL, e_mtL, e_w, e_w1, e_w2, e_wE, e_wZ, e_itK, e_itT, e_itL, e_itT2, e_itL2, e_lc, e_for, e_wipe0, e_wipe, e_okI, e_okR, e_gSb, List.getElem?_cons_zero, List.getElem?_cons_succ, List.set_cons_zero, List.set_cons_succ]
    refine .inl (q0 (noRing_iff.mpr fun a b c h => no a b c ?_ h))
    have := h.2.1
    rw [tb.len] at this
    omega
def g_isOrd : DRs := fun ds st Q => ∃ (n : Nat) (ts : List (List (List Int))), ds = [tabsD ts] ∧ (∀ t ∈ ts, Tb n t) ∧ n ≤ 60 ∧ ts.length ≤ 60 ∧ Q (.bl (ts.all noRing)) st
theorem ar_isOrd (ds : List D) (st : DSt) (Q : DK) (h : g_isOrd ds st Q) : ds.length = 1 := by
  obtain ⟨_, _, rfl, _⟩ := h
  rfl
theorem all_range_get {α : Type} (ts : List α) (p : α → Bool) (q : Nat → Bool) (h : ∀ (k : Nat) (t : α), ts[k]? = some t → q k = p t) : (List.range ts.length).all q = ts.all p := by
  rw [Bool.eq_iff_iff, List.all_eq_true, List.all_eq_true]
  constructor
  · intro hh t ht
    obtain ⟨k, e⟩ := List.mem_iff_getElem?.mp ht
    rw [← h k t e]
    exact hh k (List.mem_range.mpr (List.getElem?_eq_some_iff.mp e).1)
  · intro hh k hk
    have lt := List.mem_range.mp hk
    rw [h k ts[k] (List.getElem?_eq_getElem lt)]
    exact hh _ (List.getElem_mem lt)
theorem sem_isOrd (ds : List D) (st : DSt) (Q : DK) (h : g_isOrd ds st Q) : F_is_ordered g_ring { nx := fun _ st' => Rt st Q .non st', rt := Rt st Q } (startD 2 ds) st := by
  obtain ⟨n, ts, rfl, tb, n60, l60, q⟩ := h
  have st2 : startD 2 [tabsD ts] = [some (.tup (ts.map rowsD)), none] := rfl
  have big : (1000 : Nat) ≤ sizeLine := by decide
  simp only [F_is_ordered, st2, e_var, e_C, e_op, e_neg, e_isN, e_notN, e_and, e_or, e_not, e_test, e_tAnd, e_tOr, e_tNot, e_tYes, e_if, e_aNil, e_aCons, e_tup, e_lst, e_lstN, e_len0, e_len1, e_len2, e_len3, e_len4, e_len5, e_cb, e_on1, e_on2, e_onI, e_onB, e_onO, e_onO0, e_onOO, e_I0, e_I, e_add, e_addT, e_addS, e_addL, e_addLR, e_addRL, e_addRR, e_mul, e_mulL, e_mulT, e_rev, e_revT, e_ix, e_eqI, e_eqS, e_eqB, e_neI, e_neS, e_neB, e_ltI, e_chain, e_len, e_abs, e_2I, e_tuple1, e_tuple2, e_tuple3, e_listT, e_listN, e_allR, e_seqT, e_seqK, e_seqL, e_isi, e_isB, e_notB, e_truth, e_next, e_seq, e_drop, e_ret, e_retN, e_ifS, e_set, e_asg, e_par, e_nm, e_gsN, e_gsC, e_gTpK, e_gTpL, e_sum, e_maxL, e_minL, e_maxDef, e_int, e_intB, e_aug, e_on3, e_par3, e_newK, e_getK, e_keyI, e_keyS, e_inK, e_ninK, e_putK, e_lenK, e_lstS, e_seqX, e_gTpT, e_oN, e_oS, e_sl, e_slT, e_slL, e_finT, e_finN, e_index, e_idxT, e_idxL, e_mIx, e_ixST, e_ixSL, e_mtL, e_w, e_w1, e_w2, e_wE, e_wZ, e_itK, e_itT, e_itL, e_itT2, e_itL2, e_lc, e_for, e_wipe0, e_wipe, e_okI, e_okR, e_gSb, List.getElem?_cons_zero, List.getElem?_cons_succ, List.set_cons_zero, List.set_cons_succ, List.length_map, rgD_length, Int.toNat_natCast]
  refine ⟨⟨by omega, by omega⟩, by omega, lc_rng (fun k => .bl (noRing (ts.getD k []))) (fun k lt Q' q' => ?_) ?_⟩
  · have e : ts[k]? = some (ts.getD k []) := by rw [List.getD_eq_getElem?_getD, List.getElem?_eq_getElem lt]; rfl
    simp only [e_var, e_C, e_op, e_neg, e_isN, e_notN, e_and, e_or, e_not, e_test, e_tAnd, e_tOr, e_tNot, e_tYes, e_if, e_aNil, e_aCons, e_tup, e_lst, e_lstN, e_len0, e_len1, e_len2, e_len3, e_len4, e_len5, e_cb, e_on1, e_on2, e_onI, e_onB, e_onO, e_onO0, e_onOO, e_I0, e_I, e_add, e_addT, e_addS, e_addL, e_addLR, e_addRL, e_addRR, e_mul, e_mulL, e_mulT, e_rev, e_revT, e_ix, e_eqI, e_eqS, e_eqB, e_neI, e_neS, e_neB, e_ltI, e_chain, e_len, e_abs, e_2I, e_tuple1, e_tuple2, e_tuple3, e_listT, e_listN, e_allR, e_seqT, e_seqK, e_seqL, e_isi, e_isB, e_notB, e_truth, e_next, e_seq, e_drop, e_ret, e_retN, e_ifS, e_set, e_asg, e_par, e_nm, e_gsN, e_gsC, e_gTpK, e_gTpL, e_sum, e_maxL, e_minL, e_maxDef, e_int, e_intB, e_aug, e_on3, e_par3, e_newK, e_getK, e_keyI, e_keyS, e_inK, e_ninK, e_putK, e_lenK, e_lstS, e_seqX, e_gTpT, e_oN, e_oS, e_sl, e_slT, e_slL, e_finT, e_finN, e_index, e_idxT, e_idxL, e_mIx, e_ixST, e_ixSL, e_mtL, e_w, e_w1, e_w2, e_wE, e_wZ, e_itK, e_itT, e_itL, e_itT2, e_itL2, e_lc, e_for, e_wipe0, e_wipe, e_okI, e_okR, e_gSb, List.getElem?_cons_zero, List.getElem?_cons_succ, List.set_cons_zero, List.set_cons_succ]
    refine ⟨n, ts, k, _, rfl, e, tb _ (List.mem_of_getElem? e), n60, fun no => ?_, fun a b c r => ?_⟩
    · show Q' (.bl (isNon .non)) st
      rw [no] at q'
      exact q'
    · have no : noRing (ts.getD k []) = false := by
        cases z : noRing (ts.getD k []) with
        | false => rfl
        | true => exact absurd r (noRing_iff.mp z a b c)
      show Q' (.bl (isNon (.tup _))) st
      rw [no] at q'
      exact q'
  · refine all_end (p := fun k => noRing (ts.getD k [])) ?_
    rw [all_range_get ts noRing _ fun k t e => by rw [List.getD_eq_getElem?_getD, e]; rfl]
    exact .inl q
theorem Ord.noRing {n : Nat} {ns : List Int} (o : Ord n ns) : DL.noRing (ordT ns) = true := by
  refine noRing_iff.mpr fun a b c h => ?_
  obtain ⟨a0, a1, hb, hc, ha⟩ := h
  rw [ordT_length, o.len] at a1
  have b1 := (o.beats (a := a.toNat) (by omega)).mp hb
  have c1 := (o.beats (a := b.toNat) (by omega)).mp hc
  have d1 := (o.beats (a := c.toNat) (by omega)).mp ha
  rw [Int.toNat_of_nonneg a0] at b1
  rw [Int.toNat_of_nonneg b1.1.1] at c1
  rw [Int.toNat_of_nonneg c1.1.1] at d1
  omega
end DL
namespace DL
open PySem PySem.Spec PyProof.Rows L2 LamX PySem.W SL
def ixP (ps : List (List Int)) (s : Int) (k : Nat) : Nat := pos (ps.getD k []) s
def farLe (ps : List (List Int)) (s : Int) (a b : Nat) : Bool := decide (-(ixP ps s a : Int) < -(ixP ps s b : Int) ∨ (-(ixP ps s a : Int) = -(ixP ps s b : Int) ∧ (a : Int) ≤ (b : Int)))
def farN (ps : List (List Int)) (s : Int) : List Nat := (List.range ps.length).mergeSort (farLe ps s)
def farO (ps : List (List Int)) (s : Int) : List Int := (farN ps s).map fun i : Nat => (i : Int)
theorem farO_ord (ps : List (List Int)) (s : Int) : Ord ps.length (farO ps s) := by
  refine ⟨?_⟩
  unfold farO R
  exact (List.mergeSort_perm _ _).map _
theorem farO_pair (ps : List (List Int)) (s : Int) : (farN ps s).Pairwise fun a b => farLe ps s a b = true := by
  refine List.pairwise_mergeSort (fun a b c h1 h2 => ?_) (fun a b => ?_) _
  · unfold farLe at h1 h2 ⊢
    simp only [decide_eq_true_eq] at h1 h2 ⊢
    omega
  · unfold farLe
    simp only [Bool.or_eq_true, decide_eq_true_eq]
    omega
def Far (ps : List (List Int)) (s : Int) (a b : Nat) : Prop := ixP ps s b < ixP ps s a ∨ (ixP ps s a = ixP ps s b ∧ a < b)
theorem far_pos {ps : List (List Int)} {s : Int} {a b : Nat} (ha : a < ps.length) (hb : b < ps.length) (ne : a ≠ b) : pos (farO ps s) a < pos (farO ps s) b ↔ Far ps s a b := by
  have o := farO_ord ps s
  have ma : (a : Int) ∈ farO ps s := o.mem.mpr (by omega)
  have mb : (b : Int) ∈ farO ps s := o.mem.mpr (by omega)
  have up : ∀ x y : Nat, (x : Int) ∈ farO ps s → (y : Int) ∈ farO ps s → pos (farO ps s) x < pos (farO ps s) y → farLe ps s x y = true := by
    intro x y hx hy lt
    have px := (pos_at hx).1
    have py := (pos_at hy).1
    unfold farO at px py
    rw [List.getElem?_map] at px py
    cases ex : (farN ps s)[pos (farO ps s) x]? with
    | none => unfold farO at ex; rw [ex] at px; cases px
    | some u =>
      cases ey : (farN ps s)[pos (farO ps s) y]? with
      | none => unfold farO at ey; rw [ey] at py; cases py
      | some v =>
        have ex' := ex
        have ey' := ey
        unfold farO at ex ey
        rw [ex] at px
        rw [ey] at py
        have e1 : u = x := by
          have h : (u : Int) = x := Option.some.inj px
          omega
        have e2 : v = y := by
          have h : (v : Int) = y := Option.some.inj py
          omega
        subst e1
        subst e2
        obtain ⟨l1, q1⟩ := List.getElem?_eq_some_iff.mp ex'
        obtain ⟨l2, q2⟩ := List.getElem?_eq_some_iff.mp ey'
        have z := List.pairwise_iff_getElem.mp (farO_pair ps s) _ _ l1 l2 lt
        rw [q1, q2] at z
        exact z
  constructor
  · intro lt
    have z := up a b ma mb lt
    unfold farLe at z
    simp only [decide_eq_true_eq] at z
    unfold Far
    omega
  · intro f
    rcases Nat.lt_trichotomy (pos (farO ps s) a) (pos (farO ps s) b) with z | z | z
    · exact z
    · have := pos_inj ma mb z
      omega
    · have y := up b a mb ma z
      unfold farLe at y
      simp only [decide_eq_true_eq] at y
      unfold Far at f
      omega
def g_farOrd : DRs := fun ds st Q => ∃ (n : Nat) (ps : List (List Int)) (s : Nat), ds = [rowsD ps, .int s] ∧ (∀ p ∈ ps, Ord n p) ∧ s < n ∧ ps.length ≤ 60 ∧ Q (rowD (farO ps s)) st
theorem ar_farOrd (ds : List D) (st : DSt) (Q : DK) (h : g_farOrd ds st Q) : ds.length = 2 := by
  obtain ⟨_, _, _, rfl, _⟩ := h
  rfl
theorem sem_farOrd (ds : List D) (st : DSt) (Q : DK) (h : g_farOrd ds st Q) : F_farther_order { nx := fun _ st' => Rt st Q .non st', rt := Rt st Q } (startD 2 ds) st := by
  obtain ⟨n, ps, s, rfl, oo, ls, few, q⟩ := h
  have st2 : startD 2 [rowsD ps, D.int (s : Nat)] = [some (.tup (ps.map rowD)), some (.int s)] := rfl
  simp only [F_farther_order, st2, e_var, e_C, e_op, e_neg, e_isN, e_notN, e_and, e_or, e_not, e_test, e_tAnd, e_tOr, e_tNot, e_tYes, e_if, e_aNil, e_aCons, e_tup, e_lst, e_lstN, e_len0, e_len1, e_len2, e_len3, e_len4, e_len5, e_cb, e_on1, e_on2, e_onI, e_onB, e_onO, e_onO0, e_onOO, e_I0, e_I, e_add, e_addT, e_addS, e_addL, e_addLR, e_addRL, e_addRR, e_mul, e_mulL, e_mulT, e_rev, e_revT, e_ix, e_eqI, e_eqS, e_eqB, e_neI, e_neS, e_neB, e_ltI, e_chain, e_len, e_abs, e_2I, e_tuple1, e_tuple2, e_tuple3, e_listT, e_listN, e_allR, e_seqT, e_seqK, e_seqL, e_isi, e_isB, e_notB, e_truth, e_next, e_seq, e_drop, e_ret, e_retN, e_ifS, e_set, e_asg, e_par, e_nm, e_gsN, e_gsC, e_gTpK, e_gTpL, e_sum, e_maxL, e_minL, e_maxDef, e_int, e_intB, e_aug, e_on3, e_par3, e_newK, e_getK, e_keyI, e_keyS, e_inK, e_ninK, e_putK, e_lenK, e_lstS, e_seqX, e_gTpT, e_oN, e_oS, e_sl, e_slT, e_slL, e_finT, e_finN, e_index, e_idxT, e_idxL, e_mIx, e_ixST, e_ixSL, e_mtL, e_w, e_w1, e_w2, e_wE, e_wZ, e_itK, e_itT, e_itL, e_itT2, e_itL2, e_lc, e_for, e_wipe0, e_wipe, e_okI, e_okR, e_gSb, List.getElem?_cons_zero, List.getElem?_cons_succ, List.set_cons_zero, List.set_cons_succ]
  unfold dSortR
  simp only [e_var, e_C, e_op, e_neg, e_isN, e_notN, e_and, e_or, e_not, e_test, e_tAnd, e_tOr, e_tNot, e_tYes, e_if, e_aNil, e_aCons, e_tup, e_lst, e_lstN, e_len0, e_len1, e_len2, e_len3, e_len4, e_len5, e_cb, e_on1, e_on2, e_onI, e_onB, e_onO, e_onO0, e_onOO, e_I0, e_I, e_add, e_addT, e_addS, e_addL, e_addLR, e_addRL, e_addRR, e_mul, e_mulL, e_mulT, e_rev, e_revT, e_ix, e_eqI, e_eqS, e_eqB, e_neI, e_neS, e_neB, e_ltI, e_chain, e_len, e_abs, e_2I, e_tuple1, e_tuple2, e_tuple3, e_listT, e_listN, e_allR, e_seqT, e_seqK, e_seqL, e_isi, e_isB, e_notB, e_truth, e_next, e_seq, e_drop, e_ret, e_retN, e_ifS, e_set, e_asg, e_par, e_nm, e_gsN, e_gsC, e_gTpK, e_gTpL, e_sum, e_maxL, e_minL, e_maxDef, e_int, e_intB, e_aug, e_on3, e_par3, e_newK, e_getK, e_keyI, e_keyS, e_inK, e_ninK, e_putK, e_lenK, e_lstS, e_seqX, e_gTpT, e_oN, e_oS, e_sl, e_slT, e_slL, e_finT, e_finN, e_index, e_idxT, e_idxL, e_mIx, e_ixST, e_ixSL, e_mtL, e_w, e_w1, e_w2, e_wE, e_wZ, e_itK, e_itT, e_itL, e_itT2, e_itL2, e_lc, e_for, e_wipe0, e_wipe, e_okI, e_okR, e_gSb, List.getElem?_cons_zero, List.getElem?_cons_succ, List.set_cons_zero, List.set_cons_succ, List.length_map, Int.toNat_natCast]
  refine ⟨⟨by omega, by omega⟩, fun k => .tuple [.int (-(ixP ps s k : Int)), .int (k : Int)], ⟨fun d hd d' hd' => ?_, .inl fun d hd => ?_, fun i => ?_⟩, fun i lt => ?_, ?_⟩
  · obtain ⟨a, _, rfl⟩ := List.mem_map.mp hd
    obtain ⟨b, _, rfl⟩ := List.mem_map.mp hd'
    rfl
  · obtain ⟨a, _, rfl⟩ := List.mem_map.mp hd
    exact ⟨_, _, rfl⟩
  · simp [PyData.depth, PyData.depthAll]
  · have mp : ps.getD i [] ∈ ps := by
      rw [List.getD_eq_getElem?_getD, List.getElem?_eq_getElem lt]
      exact List.getElem_mem lt
    have ms : (s : Int) ∈ ps.getD i [] := (oo _ mp).mem.mpr (by omega)
    refine ⟨.tuk [.int (-(ixP ps s i : Int)), .int i], ?_, .inr ⟨_, _, rfl, rfl⟩⟩
    have e1 : pIx (pVar 0) (pVar 2) ([some (.tup (ps.map rowD)), some (.int (s : Int))] ++ [some (.int (i : Int))]) st = some (rowD (ps.getD i [])) := by
      show atI (ps.map rowD) (i : Int) = _
      exact rows_at lt
    unfold pTup2 pNeg pIndex
    rw [e1]
    unfold rowD
    simp only [pVar, List.cons_append, List.nil_append, List.getElem?_cons_zero, List.getElem?_cons_succ, intsD_ints, (pos_at ms).2, Option.map_some]
    rfl
  · show Rt st Q (.tup _) st
    refine .inl ?_
    rw [dataLe_ii]
    unfold farO farN at q
    unfold rowD at q
    rw [List.map_map] at q
    exact q
def g_farRule : DRs := fun ds st Q => ∃ (n : Nat) (ps : List (List Int)), ds = [rowsD ps] ∧ (∀ p ∈ ps, Ord n p) ∧ 1 ≤ ps.length ∧ ps.length ≤ 60 ∧ n ≤ 60 ∧ Q (tabsD ((List.range n).map fun s : Nat => ordT (farO ps s))) st
theorem ar_farRule (ds : List D) (st : DSt) (Q : DK) (h : g_farRule ds st Q) : ds.length = 1 := by
  obtain ⟨_, _, rfl, _⟩ := h
  rfl
theorem sem_farRule (ds : List D) (st : DSt) (Q : DK) (h : g_farRule ds st Q) : F_farther_rule g_ruleOf g_farOrd { nx := fun _ st' => Rt st Q .non st', rt := Rt st Q } (startD 2 ds) st := by
  obtain ⟨n, ps, rfl, oo, l0, few, n60, q⟩ := h
  have st2 : startD 2 [rowsD ps] = [some (.tup (ps.map rowD)), none] := rfl
  have big : (1000 : Nat) ≤ sizeLine := by decide
  obtain ⟨p, r, rfl⟩ : ∃ p r, ps = p :: r := by
    cases ps with
    | nil => simp at l0
    | cons p r => exact ⟨p, r, rfl⟩
  have op := oo p List.mem_cons_self
  have at_ : atI ((p :: r).map rowD) 0 = some (.tup (p.map D.int)) := at0
  simp only [F_farther_rule, st2, e_var, e_C, e_op, e_neg, e_isN, e_notN, e_and, e_or, e_not, e_test, e_tAnd, e_tOr, e_tNot, e_tYes, e_if, e_aNil, e_aCons, e_tup, e_lst, e_lstN, e_len0, e_len1, e_len2, e_len3, e_len4, e_len5, e_cb, e_on1, e_on2, e_onI, e_onB, e_onO, e_onO0, e_onOO, e_I0, e_I, e_add, e_addT, e_addS, e_addL, e_addLR, e_addRL, e_addRR, e_mul, e_mulL, e_mulT, e_rev, e_revT, e_ix, e_eqI, e_eqS, e_eqB, e_neI, e_neS, e_neB, e_ltI, e_chain, e_len, e_abs, e_2I, e_tuple1, e_tuple2, e_tuple3, e_listT, e_listN, e_allR, e_seqT, e_seqK, e_seqL, e_isi, e_isB, e_notB, e_truth, e_next, e_seq, e_drop, e_ret, e_retN, e_ifS, e_set, e_asg, e_par, e_nm, e_gsN, e_gsC, e_gTpK, e_gTpL, e_sum, e_maxL, e_minL, e_maxDef, e_int, e_intB, e_aug, e_on3, e_par3, e_newK, e_getK, e_keyI, e_keyS, e_inK, e_ninK, e_putK, e_lenK, e_lstS, e_seqX, e_gTpT, e_oN, e_oS, e_sl, e_slT, e_slL, e_finT, e_finN, e_index, e_idxT, e_idxL, e_mIx, e_ixST, e_ixSL, e_mtL, e_w, e_w1, e_w2, e_wE, e_wZ, e_itK, e_itT, e_itL, e_itT2, e_itL2, e_lc, e_for, e_wipe0, e_wipe, e_okI, e_okR, e_gSb, List.getElem?_cons_zero, List.getElem?_cons_succ, List.set_cons_zero, List.set_cons_succ, at_, List.length_map, op.len, rgD_length, Int.toNat_natCast]
  refine ⟨⟨by omega, by omega⟩, by omega, lc_rng (fun s => rowD (farO (p :: r) s)) (fun k lt Q' q' => ?_) ?_⟩
  · simp only [e_var, e_C, e_op, e_neg, e_isN, e_notN, e_and, e_or, e_not, e_test, e_tAnd, e_tOr, e_tNot, e_tYes, e_if, e_aNil, e_aCons, e_tup, e_lst, e_lstN, e_len0, e_len1, e_len2, e_len3, e_len4, e_len5, e_cb, e_on1, e_on2, e_onI, e_onB, e_onO, e_onO0, e_onOO, e_I0, e_I, e_add, e_addT, e_addS, e_addL, e_addLR, e_addRL, e_addRR, e_mul, e_mulL, e_mulT, e_rev, e_revT, e_ix, e_eqI, e_eqS, e_eqB, e_neI, e_neS, e_neB, e_ltI, e_chain, e_len, e_abs, e_2I, e_tuple1, e_tuple2, e_tuple3, e_listT, e_listN, e_allR, e_seqT, e_seqK, e_seqL, e_isi, e_isB, e_notB, e_truth, e_next, e_seq, e_drop, e_ret, e_retN, e_ifS, e_set, e_asg, e_par, e_nm, e_gsN, e_gsC, e_gTpK, e_gTpL, e_sum, e_maxL, e_minL, e_maxDef, e_int, e_intB, e_aug, e_on3, e_par3, e_newK, e_getK, e_keyI, e_keyS, e_inK, e_ninK, e_putK, e_lenK, e_lstS, e_seqX, e_gTpT, e_oN, e_oS, e_sl, e_slT, e_slL, e_finT, e_finN, e_index, e_idxT, e_idxL, e_mIx, e_ixST, e_ixSL, e_mtL, e_w, e_w1, e_w2, e_wE, e_wZ, e_itK, e_itT, e_itL, e_itT2, e_itL2, e_lc, e_for, e_wipe0, e_wipe, e_okI, e_okR, e_gSb, List.getElem?_cons_zero, List.getElem?_cons_succ, List.set_cons_zero, List.set_cons_succ]
    exact ⟨n, p :: r, k, rfl, oo, lt, few, q'⟩
  · refine tuple_end ?_
    refine ⟨(p :: r).length, (List.range n).map fun s : Nat => farO (p :: r) s, ?_, fun ns hn => ?_, by omega, by rw [List.length_map, List.length_range]; exact n60, .inl ?_⟩
    · unfold rowsD
      rw [List.map_map]
      rfl
    · obtain ⟨s, _, rfl⟩ := List.mem_map.mp hn
      exact farO_ord _ _
    · rw [List.map_map]
      exact q
theorem line_ord {n : Nat} {b : Int} (n0 : 0 < n) : Ord n (lineI n b) := by
  refine ⟨(List.perm_ext_iff_of_nodup ?_ (R_nodup n)).mpr fun x => ?_⟩
  · unfold lineI
    refine List.Pairwise.map _ (fun (i : Nat) (j : Nat) (h : i < n ∧ j < n ∧ i ≠ j) => ?_) (List.Pairwise.imp_of_mem (fun {i j} hi hj h => (⟨List.mem_range.mp hi, List.mem_range.mp hj, h⟩ : i < n ∧ j < n ∧ i ≠ j)) List.nodup_range)
    intro e
    have z : ((b + (i : Int)) - (b + (j : Int))) % (n : Int) = 0 := Int.emod_eq_emod_iff_emod_sub_eq_zero.mp e
    have z2 := Int.dvd_of_emod_eq_zero z
    obtain ⟨c, hc⟩ := z2
    have hij : (i : Int) - (j : Int) = (n : Int) * c := by omega
    have c0 : c = 0 := by
      rcases Int.lt_trichotomy c 0 with w | w | w
      · have : (n : Int) * c ≤ (n : Int) * (-1) := Int.mul_le_mul_of_nonneg_left (by omega) (by omega)
        omega
      · exact w
      · have : (n : Int) * 1 ≤ (n : Int) * c := Int.mul_le_mul_of_nonneg_left (by omega) (by omega)
        omega
    rw [c0] at hij
    omega
  · rw [R_mem]
    unfold lineI
    rw [List.mem_map]
    constructor
    · rintro ⟨i, _, rfl⟩
      exact ⟨Int.emod_nonneg _ (by omega), Int.emod_lt_of_pos _ (by omega)⟩
    · rintro ⟨h0, h1⟩
      have m0 := Int.emod_nonneg (x - b) (b := (n : Int)) (by omega)
      have m1 := Int.emod_lt_of_pos (x - b) (b := (n : Int)) (by omega)
      refine ⟨((x - b) % (n : Int)).toNat, List.mem_range.mpr (by omega), ?_⟩
      rw [Int.toNat_of_nonneg m0, Int.add_emod_emod]
      rw [show b + (x - b) = x by omega]
      exact Int.emod_eq_of_lt h0 h1
theorem rg_ints (n : Nat) : rgD 0 n = (R n).map D.int := by
  rw [rgD0]
  unfold R
  rw [List.map_map]
  rfl
end DL
namespace DL
open PySem PySem.Spec PyProof.Rows L2 LamX PySem.W SL
def Beats (t : List (List Int)) (a b : Nat) : Prop := (b : Int) ∈ t.getD a []
theorem Tb.dec2 {n : Nat} {t : List (List Int)} (tb : Tb n t) {a b : Nat} (ha : a < n) (hb : b < n) (ne : a ≠ b) : Beats t a b ↔ ¬ Beats t b a := by
  have z := tb.one a b ha hb
  unfold dec at z
  rw [if_neg ne] at z
  unfold Beats
  by_cases h1 : (b : Int) ∈ t.getD a []
  · by_cases h2 : (a : Int) ∈ t.getD b []
    · rw [decide_eq_true h1, decide_eq_true h2] at z; cases z
    · exact ⟨fun _ => h2, fun _ => h1⟩
  · by_cases h2 : (a : Int) ∈ t.getD b []
    · exact ⟨fun w => absurd w h1, fun w => absurd h2 w⟩
    · rw [decide_eq_false h1, decide_eq_false h2] at z; cases z
theorem Tb.irr {n : Nat} {t : List (List Int)} (tb : Tb n t) {a : Nat} (ha : a < n) : ¬ Beats t a a := by
  have z := tb.one a a ha ha
  unfold dec at z
  rw [if_pos rfl] at z
  unfold Beats
  simpa using z
theorem Tb.trans {n : Nat} {t : List (List Int)} (tb : Tb n t) (no : noRing t = true) {a b c : Nat} (ha : a < n) (hb : b < n) (hc : c < n) (h1 : Beats t a b) (h2 : Beats t b c) : Beats t a c := by
  by_cases e : a = c
  · subst e
    have ne : a ≠ b := fun z => by subst z; exact tb.irr ha h1
    exact absurd h2 ((tb.dec2 ha hb ne).mp h1)
  · refine (tb.dec2 ha hc e).mpr fun h3 => noRing_iff.mp no a b c ⟨by omega, by rw [tb.len]; omega, ?_, ?_, ?_⟩
    · rw [Int.toNat_natCast]; exact h1
    · rw [Int.toNat_natCast]; exact h2
    · rw [Int.toNat_natCast]; exact h3
theorem sub_len {xs ys : List Int} (hx : xs.Nodup) (h : ∀ x ∈ xs, x ∈ ys) : xs.length ≤ ys.length := by
  induction xs generalizing ys with
  | nil => simp
  | cons a r ih =>
    have ha := h a List.mem_cons_self
    have z := ih (ys := ys.erase a) (List.nodup_cons.mp hx).2 fun x hx' => by
      have ne : x ≠ a := fun e => (List.nodup_cons.mp hx).1 (e ▸ hx')
      exact (List.mem_erase_of_ne ne).mpr (h x (List.mem_cons_of_mem _ hx'))
    rw [List.length_erase_of_mem ha] at z
    have := List.length_pos_of_mem ha
    rw [List.length_cons]
    omega
theorem asc_nodup {xs : List Int} (h : xs.Pairwise (· < ·)) : xs.Nodup := h.imp fun h => by omega
theorem Tb.more {n : Nat} {t : List (List Int)} (tb : Tb n t) (no : noRing t = true) {a b : Nat} (ha : a < n) (hb : b < n) (h : Beats t a b) : (t.getD b []).length < (t.getD a []).length := by
  have nb : (b : Int) ∉ t.getD b [] := tb.irr hb
  have z := sub_len (xs := (b : Int) :: t.getD b []) (ys := t.getD a []) (List.nodup_cons.mpr ⟨nb, asc_nodup (tb.asc b hb)⟩) fun x hx => by
    rcases List.mem_cons.mp hx with e | e
    · rw [e]; exact h
    · have r := tb.inr b hb x e
      have w := tb.trans no ha hb (c := x.toNat) (by omega) h (by unfold Beats; rw [Int.toNat_of_nonneg r.1]; exact e)
      unfold Beats at w
      rw [Int.toNat_of_nonneg r.1] at w
      exact w
  rw [List.length_cons] at z
  omega
def ordN (t : List (List Int)) : List Nat := (List.range t.length).mergeSort fun a b => decide (-((t.getD a []).length : Int) ≤ -((t.getD b []).length : Int))
def ordOf (t : List (List Int)) : List Int := (ordN t).map fun i : Nat => (i : Int)
theorem ordOf_ord {n : Nat} {t : List (List Int)} (l : t.length = n) : Ord n (ordOf t) := by
  refine ⟨?_⟩
  unfold ordOf R
  rw [← l]
  exact (List.mergeSort_perm _ _).map _
theorem ordOf_pos {n : Nat} {t : List (List Int)} (tb : Tb n t) (no : noRing t = true) {a b : Nat} (ha : a < n) (hb : b < n) (ne : a ≠ b) : pos (ordOf t) a < pos (ordOf t) b ↔ Beats t a b := by
  have o := ordOf_ord tb.len
  have ma : (a : Int) ∈ ordOf t := o.mem.mpr (by omega)
  have mb : (b : Int) ∈ ordOf t := o.mem.mpr (by omega)
  have pw : (ordN t).Pairwise fun a b => decide (-((t.getD a []).length : Int) ≤ -((t.getD b []).length : Int)) = true := by
    refine List.pairwise_mergeSort (fun a b c h1 h2 => ?_) (fun a b => ?_) _
    · simp only [decide_eq_true_eq] at h1 h2 ⊢
      omega
    · simp only [Bool.or_eq_true, decide_eq_true_eq]
      omega
  have up : ∀ x y : Nat, (x : Int) ∈ ordOf t → (y : Int) ∈ ordOf t → pos (ordOf t) x < pos (ordOf t) y → (t.getD y []).length ≤ (t.getD x []).length := by
    intro x y hx hy lt
    have px := (pos_at hx).1
    have py := (pos_at hy).1
    unfold ordOf at px py
    rw [List.getElem?_map] at px py
    cases ex : (ordN t)[pos (ordOf t) x]? with
    | none => unfold ordOf at ex; rw [ex] at px; cases px
    | some u =>
      cases ey : (ordN t)[pos (ordOf t) y]? with
      | none => unfold ordOf at ey; rw [ey] at py; cases py
      | some v =>
        have ex' := ex
        have ey' := ey
        unfold ordOf at ex ey
        rw [ex] at px
        rw [ey] at py
        have e1 : u = x := by
          have h : (u : Int) = x := Option.some.inj px
          omega
        have e2 : v = y := by
          have h : (v : Int) = y := Option.some.inj py
          omega
        subst e1
        subst e2
        obtain ⟨l1, q1⟩ := List.getElem?_eq_some_iff.mp ex'
        obtain ⟨l2, q2⟩ := List.getElem?_eq_some_iff.mp ey'
        have z := List.pairwise_iff_getElem.mp pw _ _ l1 l2 lt
        rw [q1, q2] at z
        simp only [decide_eq_true_eq] at z
        omega
  constructor
  · intro lt
    have z := up a b ma mb lt
    refine (tb.dec2 ha hb ne).mpr fun h => ?_
    have := tb.more no hb ha h
    omega
  · intro h
    have m := tb.more no ha hb h
    rcases Nat.lt_trichotomy (pos (ordOf t) a) (pos (ordOf t) b) with z | z | z
    · exact z
    · have := pos_inj ma mb z
      omega
    · have := up b a mb ma z
      omega
theorem Tb.ordT {n : Nat} {t : List (List Int)} (tb : Tb n t) (no : noRing t = true) : t = DL.ordT (ordOf t) := by
  have o := ordOf_ord tb.len
  refine List.ext_getElem (by rw [ordT_length, o.len, tb.len]) fun a h1 h2 => ?_
  have ha : a < n := by rw [← tb.len]; exact h1
  have e1 : t[a] = t.getD a [] := by rw [List.getD_eq_getElem?_getD, List.getElem?_eq_getElem h1]; rfl
  have e2 : (DL.ordT (ordOf t))[a] = (DL.ordT (ordOf t)).getD a [] := by rw [List.getD_eq_getElem?_getD, List.getElem?_eq_getElem h2]; rfl
  rw [e1, e2]
  refine asc_one (tb.asc a ha) (o.tb.asc a ha) fun x => ?_
  rw [o.beats ha]
  constructor
  · intro hx
    have r := tb.inr a ha x hx
    have e : ((x.toNat : Nat) : Int) = x := Int.toNat_of_nonneg r.1
    refine ⟨r, ?_⟩
    rw [← e] at hx ⊢
    have ne : a ≠ x.toNat := fun z => by
      rw [← z] at hx
      exact tb.irr ha hx
    exact (ordOf_pos tb no ha (by omega) ne).mpr hx
  · rintro ⟨r, lt⟩
    have e : ((x.toNat : Nat) : Int) = x := Int.toNat_of_nonneg r.1
    rw [← e] at lt ⊢
    have ne : a ≠ x.toNat := fun z => by
      rw [← z] at lt
      omega
    exact (ordOf_pos tb no ha (by omega) ne).mp lt
theorem ord_one {n : Nat} {xs ys : List Int} (o1 : Ord n xs) (o2 : Ord n ys) (h : ∀ a b : Nat, a < n → b < n → pos xs a < pos xs b → pos ys a < pos ys b) : xs = ys := by
  have gen : ∀ (zs ws : List Int), zs.Perm ws → zs.Pairwise (fun a b => pos ys a < pos ys b) → ws.Pairwise (fun a b => pos ys a < pos ys b) → zs = ws := by
    intro zs
    induction zs with
    | nil => intro ws p _ _; rw [List.nil_perm.mp p]
    | cons z zs ih =>
      intro ws p h1 h2
      cases ws with
      | nil => have := p.length_eq; simp at this
      | cons w ws =>
        have h1' := List.pairwise_cons.mp h1
        have h2' := List.pairwise_cons.mp h2
        have e : z = w := by
          rcases List.mem_cons.mp (p.mem_iff.mp List.mem_cons_self) with q | q
          · exact q
          · rcases List.mem_cons.mp (p.mem_iff.mpr (List.mem_cons_self (a := w) (l := ws))) with r | r
            · exact r.symm
            · have := h2'.1 z q
              have := h1'.1 w r
              omega
        subst e
        rw [ih ws (List.Perm.cons_inv p) h1'.2 h2'.2]
  have at_ : ∀ (zs : List Int), Ord n zs → ∀ (i : Nat) (l : i < zs.length), ∃ a : Nat, zs[i] = (a : Int) ∧ a < n ∧ pos zs a = i := fun zs o i l => by
    have m := o.mem.mp (List.getElem_mem l)
    refine ⟨zs[i].toNat, by omega, by omega, ?_⟩
    rw [Int.toNat_of_nonneg m.1]
    exact nd_at o.nd (pos_at (List.getElem_mem l)).1 (List.getElem?_eq_getElem l)
  refine gen xs ys (o1.perm.trans o2.perm.symm) ?_ ?_
  · refine List.pairwise_iff_getElem.mpr fun i j li lj lt => ?_
    obtain ⟨a, ea, la, pa⟩ := at_ xs o1 i li
    obtain ⟨b, eb, lb, pb⟩ := at_ xs o1 j lj
    rw [ea, eb]
    exact h a b la lb (by omega)
  · refine List.pairwise_iff_getElem.mpr fun i j li lj lt => ?_
    obtain ⟨a, ea, la, pa⟩ := at_ ys o2 i li
    obtain ⟨b, eb, lb, pb⟩ := at_ ys o2 j lj
    rw [ea, eb]
    omega
theorem Ord.again {n : Nat} {ns : List Int} (o : Ord n ns) : ordOf (DL.ordT ns) = ns := by
  have tb := o.tb
  refine ord_one (ordOf_ord tb.len) o fun a b ha hb lt => ?_
  have ne : a ≠ b := fun z => by subst z; omega
  have z := (ordOf_pos tb o.noRing ha hb ne).mp lt
  exact ((o.beats ha).mp z).2
end DL
namespace DL
open PySem PySem.Spec PyProof.Rows L2 LamX PySem.W SL
def At (sl : List Int) (s k : Nat) : Prop := sl[s]? = some (k : Int)
structure Lay (m n : Nat) (sl : List Int) : Prop where
  len : sl.length = n
  rng : ∀ x ∈ sl, -1 ≤ x ∧ x < m
  inj : ∀ s t k, At sl s k → At sl t k → s = t
theorem At.one {sl : List Int} {s j k : Nat} (h : At sl s j) (q : At sl s k) : j = k := by
  unfold At at h q
  rw [h] at q
  have := Option.some.inj q
  omega
theorem At.lt {sl : List Int} {s k : Nat} (h : At sl s k) : s < sl.length := (List.getElem?_eq_some_iff.mp h).1
theorem Lay.key {m n : Nat} {sl : List Int} (L : Lay m n sl) {s k : Nat} (h : At sl s k) : k < m ∧ s < n := by
  have := L.rng _ (List.mem_of_getElem? h)
  have := h.lt
  have := L.len
  omega
theorem Lay.either {m n : Nat} {sl : List Int} (L : Lay m n sl) {s : Nat} (h : s < n) : sl[s]? = some (-1) ∨ ∃ k, At sl s k := by
  have lt : s < sl.length := by rw [L.len]; exact h
  have e := List.getElem?_eq_getElem lt
  have r := L.rng _ (List.getElem_mem lt)
  by_cases z : sl[s] = -1
  · left; rw [e, z]
  · right
    refine ⟨sl[s].toNat, ?_⟩
    unfold At
    rw [e]
    congr 1
    omega
theorem At.ne {sl : List Int} {s k : Nat} (h : At sl s k) : sl[s]? ≠ some (-1) := by
  unfold At at h
  rw [h]
  intro z
  have := Option.some.inj z
  omega
theorem at_set {sl : List Int} {s t a k : Nat} (h : s < sl.length) : At (sl.set s (a : Int)) t k ↔ (t = s ∧ k = a) ∨ (t ≠ s ∧ At sl t k) := by
  unfold At
  by_cases e : t = s
  · subst e
    rw [List.getElem?_set_self h]
    constructor
    · intro z
      have := Option.some.inj z
      exact .inl ⟨rfl, by omega⟩
    · rintro (⟨_, z⟩ | ⟨z, _⟩)
      · rw [z]
      · exact absurd rfl z
  · rw [List.getElem?_set_ne (fun z => e z.symm)]
    constructor
    · exact fun z => .inr ⟨e, z⟩
    · rintro (⟨z, _⟩ | ⟨_, z⟩)
      · exact absurd z e
      · exact z
theorem Lay.set {m n : Nat} {sl : List Int} (L : Lay m n sl) {s a : Nat} (hs : s < n) (ha : a < m) (fr : ∀ t, ¬ At sl t a) : Lay m n (sl.set s (a : Int)) := by
  have ls : s < sl.length := by rw [L.len]; exact hs
  refine ⟨by rw [List.length_set]; exact L.len, fun x hx => ?_, fun u t k h1 h2 => ?_⟩
  · rcases List.mem_or_eq_of_mem_set hx with z | z
    · exact L.rng x z
    · omega
  · rcases (at_set ls).mp h1 with ⟨e1, e2⟩ | ⟨n1, q1⟩ <;> rcases (at_set ls).mp h2 with ⟨e3, e4⟩ | ⟨n2, q2⟩
    · omega
    · subst e2; exact absurd q2 (fr t)
    · subst e4; exact absurd q1 (fr u)
    · exact L.inj _ _ _ q1 q2
structure Setg (m n : Nat) (P : List (List Int)) (R : List (List (List Int))) : Prop where
  pl : P.length = m
  po : ∀ o ∈ P, Ord n o
  rl : R.length = n
  rt : ∀ t ∈ R, Tb m t
def pr (P : List (List Int)) (a i : Nat) : Nat := ((P.getD a []).getD i 0).toNat
def rk (P : List (List Int)) (a s : Nat) : Nat := pos (P.getD a []) (s : Int)
def bt (R : List (List (List Int))) (s a b : Nat) : Bool := decide ((b : Int) ∈ (R.getD s []).getD a [])
section
variable {m n : Nat} {P : List (List Int)} {R : List (List (List Int))}
theorem getD_memL {α : Type} {l : List α} {i : Nat} {d : α} (h : i < l.length) : l.getD i d ∈ l := by
  rw [List.getD_eq_getElem?_getD, List.getElem?_eq_getElem h]
  exact List.getElem_mem h
theorem Setg.ord (S : Setg m n P R) {a : Nat} (h : a < m) : Ord n (P.getD a []) := S.po _ (getD_memL (by rw [S.pl]; exact h))
theorem Setg.tb (S : Setg m n P R) {s : Nat} (h : s < n) : Tb m (R.getD s []) := S.rt _ (getD_memL (by rw [S.rl]; exact h))
theorem Setg.pr_at (S : Setg m n P R) {a i : Nat} (ha : a < m) (hi : i < n) : (P.getD a [])[i]? = some (pr P a i : Int) ∧ pr P a i < n := by
  have o := S.ord ha
  have li : i < (P.getD a []).length := by rw [o.len]; exact hi
  have e := List.getElem?_eq_getElem li
  have r := o.mem.mp (List.getElem_mem li)
  unfold pr
  rw [List.getD_eq_getElem?_getD (l := P.getD a []), e]
  exact ⟨by congr 1; show _ = (((P.getD a [])[i].toNat : Nat) : Int); omega, by show (P.getD a [])[i].toNat < n; omega⟩
theorem Setg.rk_at (S : Setg m n P R) {a s : Nat} (ha : a < m) (hs : s < n) : (P.getD a [])[rk P a s]? = some (s : Int) ∧ rk P a s < n ∧ ixOf (s : Int) (P.getD a []) = some (rk P a s) := by
  have o := S.ord ha
  have h := pos_at (ns := P.getD a []) (x := (s : Int)) (o.mem.mpr (by omega))
  have l := (List.getElem?_eq_some_iff.mp h.1).1
  rw [o.len] at l
  exact ⟨h.1, l, h.2⟩
theorem Setg.rk_pr (S : Setg m n P R) {a i : Nat} (ha : a < m) (hi : i < n) : rk P a (pr P a i) = i := by
  obtain ⟨e, l⟩ := S.pr_at ha hi
  exact nd_at (S.ord ha).nd (S.rk_at ha l).1 e
theorem Setg.pr_rk (S : Setg m n P R) {a s : Nat} (ha : a < m) (hs : s < n) : pr P a (rk P a s) = s := by
  obtain ⟨e, l, _⟩ := S.rk_at ha hs
  have z := (S.pr_at ha l).1
  rw [e] at z
  have := Option.some.inj z
  omega
theorem Setg.rk_inj (S : Setg m n P R) {a s t : Nat} (ha : a < m) (hs : s < n) (ht : t < n) (e : rk P a s = rk P a t) : s = t := by
  rw [← S.pr_rk ha hs, e, S.pr_rk ha ht]
theorem Setg.bt_not (S : Setg m n P R) {s a b : Nat} (hs : s < n) (ha : a < m) (hb : b < m) (ne : a ≠ b) : bt R s a b = !bt R s b a := by
  have z := (S.tb hs).dec2 ha hb ne
  unfold Beats at z
  unfold bt
  by_cases h : (a : Int) ∈ (R.getD s []).getD b []
  · rw [decide_eq_true h, decide_eq_false fun q => z.mp q h]; rfl
  · rw [decide_eq_false h, decide_eq_true (z.mpr h)]; rfl
def Ahead (P : List (List Int)) (sl : List Int) : Prop := ∀ s k, At sl s k → ∀ j, j < rk P k s → ∃ k', At sl (pr P k j) k'
structure Good (m n : Nat) (P : List (List Int)) (sl : List Int) : Prop where
  lay : Lay m n sl
  ah : Ahead P sl
structure Go (m n : Nat) (P : List (List Int)) (sl : List Int) (a i : Nat) : Prop where
  g : Good m n P sl
  ha : a < m
  hi : i < n
  fr : ∀ t, ¬ At sl t a
  ask : ∀ j, j < i → ∃ k', At sl (pr P a j) k'
  room : ∃ t, t < n ∧ sl[t]? = some (-1)
theorem next_lt (S : Setg m n P R) {sl : List Int} {a i : Nat} (ha : a < m) (hi : i < n) (ask : ∀ j, j < i → ∃ k', At sl (pr P a j) k') (room : ∃ t, t < n ∧ sl[t]? = some (-1)) {k : Nat} (tk : At sl (pr P a i) k) : i + 1 < n := by
  obtain ⟨t, lt, e⟩ := room
  have l := (S.rk_at ha lt).2.1
  have p := S.pr_rk ha lt
  rcases Nat.lt_trichotomy (rk P a t) i with q | q | q
  · obtain ⟨k', h⟩ := ask _ q
    rw [p] at h
    exact absurd e h.ne
  · rw [← q, p] at tk
    exact absurd e tk.ne
  · omega
theorem Go.on (S : Setg m n P R) {sl : List Int} {a i k : Nat} (G : Go m n P sl a i) (tk : At sl (pr P a i) k) : Go m n P sl a (i + 1) := by
  refine ⟨G.g, G.ha, next_lt S G.ha G.hi G.ask G.room tk, G.fr, fun j lj => ?_, G.room⟩
  rcases Nat.lt_or_ge j i with q | q
  · exact G.ask j q
  · rw [show j = i by omega]; exact ⟨k, tk⟩
theorem taken_set {sl : List Int} {s a : Nat} (h : s < sl.length) {t k : Nat} (tk : At sl t k) : ∃ k', At (sl.set s (a : Int)) t k' := by
  by_cases e : t = s
  · exact ⟨a, (at_set h).mpr (.inl ⟨e, rfl⟩)⟩
  · exact ⟨k, (at_set h).mpr (.inr ⟨e, tk⟩)⟩
theorem Good.put (S : Setg m n P R) {sl : List Int} {a i : Nat} (g : Good m n P sl) (ha : a < m) (hi : i < n) (fr : ∀ t, ¬ At sl t a) (ask : ∀ j, j < i → ∃ k', At sl (pr P a j) k') : Good m n P (sl.set (pr P a i) (a : Int)) := by
  have ls := (S.pr_at ha hi).2
  have ls' : pr P a i < sl.length := by rw [g.lay.len]; exact ls
  refine ⟨g.lay.set ls ha fr, fun s k h j lj => ?_⟩
  rcases (at_set ls').mp h with ⟨e1, e2⟩ | ⟨e1, q⟩
  · subst e1
    subst e2
    rw [S.rk_pr ha hi] at lj
    obtain ⟨k', h'⟩ := ask j lj
    exact taken_set ls' h'
  · obtain ⟨k', h'⟩ := g.ah s k q j lj
    exact taken_set ls' h'
theorem Go.swap (S : Setg m n P R) {sl : List Int} {a i k : Nat} (G : Go m n P sl a i) (tk : At sl (pr P a i) k) : Go m n P (sl.set (pr P a i) (a : Int)) k (rk P k (pr P a i) + 1) := by
  have ls := (S.pr_at G.ha G.hi).2
  have ls' : pr P a i < sl.length := by rw [G.g.lay.len]; exact ls
  have hk := (G.g.lay.key tk).1
  have lr := (S.rk_at hk ls).2.1
  have pk := S.pr_rk hk ls
  have nx := next_lt S (sl := sl) hk lr (G.g.ah _ _ tk) G.room (k := k) (by rw [pk]; exact tk)
  refine ⟨G.g.put S G.ha G.hi G.fr G.ask, hk, nx, fun t h => ?_, fun j lj => ?_, ?_⟩
  · rcases (at_set ls').mp h with ⟨_, e2⟩ | ⟨ne, q⟩
    · subst e2; exact G.fr _ tk
    · exact ne (G.g.lay.inj _ _ _ q tk)
  · rcases Nat.lt_or_ge j (rk P k (pr P a i)) with q | q
    · obtain ⟨k', h'⟩ := G.g.ah _ _ tk j q
      exact taken_set ls' h'
    · rw [show j = rk P k (pr P a i) by omega, pk]
      exact taken_set ls' tk
  · obtain ⟨t, lt, e⟩ := G.room
    refine ⟨t, lt, ?_⟩
    have ne : t ≠ pr P a i := fun z => by rw [z] at e; exact tk.ne e
    rw [List.getElem?_set_ne (fun z => ne z.symm)]
    exact e
def insG (P : List (List Int)) (R : List (List (List Int))) : Nat → List Int → Nat → Nat → Option (List Int × List (Nat × Nat))
  | 0, _, _, _ => none
  | f + 1, sl, a, i => match sl.getD (pr P a i) (-1) with
    | Int.ofNat k => if bt R (pr P a i) a k = true then (insG P R f (sl.set (pr P a i) (a : Int)) k (rk P k (pr P a i) + 1)).map fun x => (x.1, (a, pr P a i) :: x.2) else insG P R f sl a (i + 1)
    | Int.negSucc _ => some (sl.set (pr P a i) (a : Int), [(a, pr P a i)])
theorem insG_free {f : Nat} {sl : List Int} {a i : Nat} (h : sl[pr P a i]? = some (-1)) : insG P R (f + 1) sl a i = some (sl.set (pr P a i) (a : Int), [(a, pr P a i)]) := by
  unfold insG
  rw [List.getD_eq_getElem?_getD, h]
  rfl
theorem insG_taken {f : Nat} {sl : List Int} {a i k : Nat} (h : At sl (pr P a i) k) : insG P R (f + 1) sl a i = if bt R (pr P a i) a k = true then (insG P R f (sl.set (pr P a i) (a : Int)) k (rk P k (pr P a i) + 1)).map fun x => (x.1, (a, pr P a i) :: x.2) else insG P R f sl a (i + 1) := by
  conv => lhs; unfold insG
  unfold At at h
  rw [List.getD_eq_getElem?_getD, h]
  rfl
def wt (P : List (List Int)) (n : Nat) (t : Nat) (x : Int) : Nat := if x < 0 then 0 else n - rk P x.toNat t
def pot (P : List (List Int)) (n : Nat) (sl : List Int) : Nat := ((List.range sl.length).map fun t => wt P n t (sl.getD t (-1))).sum
theorem sum_set_nat : ∀ (l : List Nat) (i x : Nat), i < l.length → (l.set i x).sum + l.getD i 0 = l.sum + x
  | y :: r, 0, x, _ => by simp; omega
  | y :: r, i + 1, x, h => by
    have z := sum_set_nat r i x (by simpa using h)
    simp at z ⊢
    omega
theorem pot_set {sl : List Int} {s : Nat} (h : s < sl.length) (x : Int) : pot P n (sl.set s x) + wt P n s (sl.getD s (-1)) = pot P n sl + wt P n s x := by
  unfold pot
  rw [List.length_set]
  have e : (List.range sl.length).map (fun t => wt P n t ((sl.set s x).getD t (-1))) = ((List.range sl.length).map fun t => wt P n t (sl.getD t (-1))).set s (wt P n s x) := by
    refine List.ext_getElem (by simp) fun i h1 h2 => ?_
    rw [List.getElem_set, List.getElem_map, List.getElem_range, List.getElem_map, List.getElem_range]
    by_cases q : s = i
    · subst q
      rw [if_pos rfl, List.getD_eq_getElem?_getD, List.getElem?_set_self h]
      rfl
    · rw [if_neg q, List.getD_eq_getElem?_getD, List.getElem?_set_ne q, ← List.getD_eq_getElem?_getD]
  rw [e]
  have z := sum_set_nat ((List.range sl.length).map fun t => wt P n t (sl.getD t (-1))) s (wt P n s x) (by simpa using h)
  have z2 : ((List.range sl.length).map fun t => wt P n t (sl.getD t (-1))).getD s 0 = wt P n s (sl.getD s (-1)) := by
    rw [List.getD_eq_getElem?_getD, List.getElem?_map, List.getElem?_eq_getElem (by simpa using h), List.getElem_range]
    rfl
  rw [z2] at z
  exact z
theorem insG_total (S : Setg m n P R) : ∀ (f : Nat) (sl : List Int) (a i : Nat), Go m n P sl a i → pot P n sl + (n - i) < f → ∃ r, insG P R f sl a i = some r
  | 0, sl, a, i, G, h => absurd h (Nat.not_lt_zero _)
  | f + 1, sl, a, i, G, h => by
    have hi := G.hi
    have ls := (S.pr_at G.ha G.hi).2
    have ls' : pr P a i < sl.length := by rw [G.g.lay.len]; exact ls
    rcases G.g.lay.either ls with e | ⟨k, tk⟩
    · exact ⟨_, insG_free e⟩
    · rw [insG_taken tk]
      by_cases b : bt R (pr P a i) a k = true
      · rw [if_pos b]
        have G2 := G.swap S tk
        have hk := (G.g.lay.key tk).1
        have lr := (S.rk_at hk ls).2.1
        have z := pot_set (P := P) (n := n) ls' (a : Int)
        have e1 : wt P n (pr P a i) (sl.getD (pr P a i) (-1)) = n - rk P k (pr P a i) := by
          unfold At at tk
          rw [List.getD_eq_getElem?_getD, tk]
          unfold wt
          rw [if_neg (by show ¬ (k : Int) < 0; omega)]
          rfl
        have e2 : wt P n (pr P a i) (a : Int) = n - i := by
          unfold wt
          rw [if_neg (by omega), Int.toNat_natCast, S.rk_pr G.ha G.hi]
        rw [e1, e2] at z
        obtain ⟨r, hr⟩ := insG_total S f _ _ _ G2 (by omega)
        rw [hr]
        exact ⟨_, rfl⟩
      · rw [if_neg b]
        exact insG_total S f _ _ _ (G.on S tk) (by omega)
theorem insG_good (S : Setg m n P R) : ∀ (f : Nat) (sl : List Int) (a i : Nat) (L : List Int) (p : List (Nat × Nat)), Go m n P sl a i → insG P R f sl a i = some (L, p) → Good m n P L ∧ (∀ k, (∃ s, At L s k) ↔ k = a ∨ ∃ s, At sl s k) ∧ ∀ x ∈ p, x.1 < m ∧ x.2 < n
  | 0, sl, a, i, L, p, G, h => by cases h
  | f + 1, sl, a, i, L, p, G, h => by
    have ls := (S.pr_at G.ha G.hi).2
    have ls' : pr P a i < sl.length := by rw [G.g.lay.len]; exact ls
    rcases G.g.lay.either ls with e | ⟨k, tk⟩
    · rw [insG_free e] at h
      cases h
      refine ⟨G.g.put S G.ha G.hi G.fr G.ask, fun k => ?_, fun x hx => ?_⟩
      · constructor
        · rintro ⟨s, hs⟩
          rcases (at_set ls').mp hs with ⟨_, z⟩ | ⟨_, z⟩
          · exact .inl z
          · exact .inr ⟨s, z⟩
        · rintro (rfl | ⟨s, hs⟩)
          · exact ⟨_, (at_set ls').mpr (.inl ⟨rfl, rfl⟩)⟩
          · refine ⟨s, (at_set ls').mpr (.inr ⟨fun z => ?_, hs⟩)⟩
            rw [z] at hs
            exact hs.ne e
      · rw [List.mem_singleton.mp hx]
        exact ⟨G.ha, ls⟩
    · rw [insG_taken tk] at h
      by_cases b : bt R (pr P a i) a k = true
      · rw [if_pos b] at h
        obtain ⟨⟨L2, p2⟩, h2, h3⟩ := Option.map_eq_some_iff.mp h
        cases h3
        obtain ⟨g, ks, pr_⟩ := insG_good S f _ _ _ _ p2 (G.swap S tk) h2
        refine ⟨g, fun j => ?_, fun x hx => ?_⟩
        · rw [ks]
          constructor
          · rintro (rfl | ⟨s, hs⟩)
            · exact .inr ⟨_, tk⟩
            · rcases (at_set ls').mp hs with ⟨_, z⟩ | ⟨_, z⟩
              · exact .inl z
              · exact .inr ⟨s, z⟩
          · rintro (rfl | ⟨s, hs⟩)
            · exact .inr ⟨_, (at_set ls').mpr (.inl ⟨rfl, rfl⟩)⟩
            · by_cases e : s = pr P a i
              · rw [e] at hs
                exact .inl (hs.one tk)
              · exact .inr ⟨s, (at_set ls').mpr (.inr ⟨e, hs⟩)⟩
        · rcases List.mem_cons.mp hx with z | z
          · rw [z]; exact ⟨G.ha, ls⟩
          · exact pr_ x z
      · rw [if_neg b] at h
        exact insG_good S f _ _ _ L p (G.on S tk) h
def ins (P : List (List Int)) (R : List (List (List Int))) (sl : List Int) (a : Nat) : List Int × List (Nat × Nat) := (insG P R (pot P R.length sl + R.length + 1) sl a 0).getD (sl, [])
theorem Go.start {sl : List Int} {a : Nat} (g : Good m n P sl) (ha : a < m) (fr : ∀ t, ¬ At sl t a) (room : ∃ t, t < n ∧ sl[t]? = some (-1)) : Go m n P sl a 0 := by
  have r := room
  obtain ⟨t, lt, _⟩ := r
  exact ⟨g, ha, by omega, fr, fun j lj => absurd lj (Nat.not_lt_zero _), room⟩
theorem ins_eq (S : Setg m n P R) {sl : List Int} {a : Nat} (G : Go m n P sl a 0) : insG P R (pot P R.length sl + R.length + 1) sl a 0 = some (ins P R sl a) := by
  obtain ⟨r, h⟩ := insG_total S (pot P R.length sl + R.length + 1) sl a 0 G (by rw [S.rl]; omega)
  unfold ins
  rw [h]
  rfl
end
end DL
namespace DL
open PySem PySem.Spec PyProof.Rows L2 LamX PySem.W SL
def F_insert : DTS := (sSeq (sIf (dTest (dOp dIn (dVar 3) (dVar 2))) sNever sNext) (sSeq (sIf (dTest (dOp dNotIn (dC (.int (-1))) (dVar 2))) sNever sNext) (sSeq (sSet 4 (dCB dListN (daCons (dVar 2) daNil))) (sSeq (sSet 5 (dLstN daNil)) (sSeq (sSet 6 (dVar 3)) (sSeq (sSet 7 (dOp dIx (dOp dIx (dVar 0) (dVar 3)) (dC (.int 0)))) (sSeq (sWhile (dTest (dOp dNe (dOp dIx (dVar 4) (dVar 7)) (dC (.int (-1))))) (sSeq (sIf (dTest (dOp dNotIn (dVar 6) (dOp dIx (dOp dIx (dVar 1) (dVar 7)) (dOp dIx (dVar 4) (dVar 7))))) (sSeq (sDrop (dMtL mAppend (dVar 5) (daCons (dTup (daCons (dVar 6) (daCons (dVar 7) daNil))) daNil))) (sAsg (dTup (daCons (dOp dIx (dVar 4) (dVar 7)) (daCons (dVar 6) daNil))) (gTp 2 (gsCons (gNm 6) (gsCons (gSb (dVar 4) (dVar 7)) gsNil))))) sNext) (sSet 7 (dOp dIx (dOp dIx (dVar 0) (dVar 6)) (dOp dAdd (dIndex (dOp dIx (dVar 0) (dVar 6)) (daCons (dVar 7) daNil)) (dC (.int 1))))))) (sSeq (sAsg (dVar 6) (gSb (dVar 4) (dVar 7))) (sSeq (sDrop (dMtL mAppend (dVar 5) (daCons (dTup (daCons (dVar 6) (daCons (dVar 7) daNil))) daNil))) (sRet (dTup (daCons (dCB dTuple (daCons (dVar 4) daNil)) (daCons (dCB dTuple (daCons (dVar 5) daNil)) daNil)))))))))))))
def F_layout_of (g_insert : DRs) : DTS := (sSeq (sSet 3 (dOp dMul (dTup (daCons (dC (.int (-1))) daNil)) (dCB dLen (daCons (dVar 1) daNil)))) (sSeq (sFor (wSeq (dVar 2)) (gNm 4) (sSet 3 (dOp dIx (dCB g_insert (daCons (dVar 0) (daCons (dVar 1) (daCons (dVar 3) (daCons (dVar 4) daNil))))) (dC (.int 0))))) (sRet (dVar 3))))
end DL
namespace DL
open PySem PySem.Spec PyProof.Rows L2 LamX PySem.W SL
def F_flows (g_flows_behind : DRs) : DTS := (sRet (dCB g_flows_behind (daCons (dLcG (wSeq (dVar 0)) (gNm 1) dtYes (dTup (daCons (dC (.int 1)) (daCons (dVar 1) daNil))) [1] finT) daNil)))
def F_flows_behind (g_require_room : DRs) (g_flow_behind : DRs) : DTS := (sSeq (sDrop (dCB g_require_room (daCons (dVar 0) daNil))) (sSeq (sSet 1 (dC (.int 0))) (sSeq (sFor (wSeq (dVar 0)) (gTp 2 (gsCons (gNm 2) (gsCons (gNm 3) gsNil))) (sSet 1 (dCB g_flow_behind (daCons (dVar 1) (daCons (dVar 2) (daCons (dVar 3) daNil)))))) (sSeq (sSet 4 (dLstN daNil)) (sSeq (sFor (wSeq (dVar 0)) (gTp 2 (gsCons (gNm 2) (gsCons (gNm 3) gsNil))) (sSeq (sSet 1 (dCB g_flow_behind (daCons (dVar 1) (daCons (dVar 2) (daCons (dVar 3) daNil))))) (sDrop (dMtL mAppend (dVar 4) (daCons (dVar 1) daNil))))) (sRet (dCB dTuple (daCons (dVar 4) daNil))))))))
def F_require_room : DTS := (sSeq (sSet 1 (dCB dSum (daCons (dLcG (wSeq (dVar 0)) (gTp 2 (gsCons (gNm 2) (gsCons (gNm 3) gsNil))) dtYes (dOp dMul (dVar 2) (dVar 3)) [2, 3] finT) daNil))) (sIf (dTest (dOp dGt (dVar 1) (dCB dSum (daCons (dLcG (wSeq (dVar 0)) (gTp 2 (gsCons (gNm 2) (gsCons (gNm 3) gsNil))) dtYes (dVar 2) [2, 3] finT) daNil)))) sNever sNext))
def F_flow_behind : DTS := (sRet (dCB dMax2 (daCons (dC (.int 0)) (daCons (dOp dAdd (dVar 0) (dOp dMul (dVar 1) (dOp dSub (dVar 2) (dC (.int 1))))) daNil))))
def F_taken (g_flows : DRs) : DTS := (sSeq (sSet 1 (dCB g_flows (daCons (dVar 0) daNil))) (sRet (dCB dTuple (daCons (dLcG (wRng1 (daCons (dCB dLen (daCons (dVar 0) daNil)) daNil)) (gNm 2) (dTest (dOp dGt (dOp dAdd (dOp dIx (dVar 1) (dOp dSub (dVar 2) (dC (.int 1)))) (dOp dIx (dVar 0) (dVar 2))) (dC (.int 0)))) (dVar 2) [2] finT) daNil))))
def F_greatest_distance (g_waits : DRs) : DTS := (sRet (dMaxDef (dCB g_waits (daCons (dVar 0) daNil)) (dC (.int 0))))
def F_square_sum (g_waits : DRs) : DTS := (sRet (dCB dSum (daCons (dLcG (wSeq (dCB g_waits (daCons (dVar 0) daNil))) (gNm 1) dtYes (dOp dMul (dVar 1) (dVar 1)) [1] finT) daNil)))
def F_waits (g_flows : DRs) : DTS := (sSeq (sSet 1 (dCB g_flows (daCons (dVar 0) daNil))) (sRet (dLc2G (wRng1 (daCons (dCB dLen (daCons (dVar 0) daNil)) daNil)) (gNm 2) dtYes (wRng1 (daCons (dOp dIx (dVar 0) (dVar 2)) daNil)) (gNm 3) dtYes (dOp dAdd (dOp dIx (dVar 1) (dOp dSub (dVar 2) (dC (.int 1)))) (dVar 3)) [2, 3] [3] finT)))
end DL
namespace DL
open PySem PySem.Spec PyProof.Rows L2 LamX PySem.W SL
theorem sm_row {ns : List Int} {m : Nat} (h : ∀ x ∈ ns, -100 ≤ x ∧ x ≤ 1000) (l : ns.length ≤ m) : Sm 1 (m * 22 + 3) (rowD ns) := by
  unfold rowD
  refine sm_tup (k := 0) (c := 20) (fun d hd => ?_) (by rw [List.length_map]; exact l)
  obtain ⟨i, hi, rfl⟩ := List.mem_map.mp hd
  exact sm_int (h i hi).1 (h i hi).2
theorem sm_rows {nss : List (List Int)} {m k : Nat} (h : ∀ ns ∈ nss, (∀ x ∈ ns, -100 ≤ x ∧ x ≤ 1000) ∧ ns.length ≤ m) (l : nss.length ≤ k) : Sm 2 (k * ((m * 22 + 3) + 2) + 3) (rowsD nss) := by
  unfold rowsD
  refine sm_tup (k := 1) (fun d hd => ?_) (by rw [List.length_map]; exact l)
  obtain ⟨i, hi, rfl⟩ := List.mem_map.mp hd
  exact sm_row (h i hi).1 (h i hi).2
theorem Ord.sm {n : Nat} {ns : List Int} (o : Ord n ns) (h : n ≤ 16) : Sm 1 355 (rowD ns) := by
  have z := sm_row (ns := ns) (m := 16) (fun x hx => by have := o.mem.mp hx; omega) (by rw [o.len]; exact h)
  exact z
theorem Tb.sm {n : Nat} {t : List (List Int)} (o : Tb n t) (h : n ≤ 16) : Sm 2 5715 (rowsD t) := by
  have z := sm_rows (nss := t) (m := 16) (k := 16) (fun ns hn => ⟨fun x hx => by have := (o.row hn).2 x hx; omega, by have := o.few hn; omega⟩) (by rw [o.len]; exact h)
  exact z
end DL
namespace DL
open PySem PySem.Spec PyProof.Rows L2 LamX PySem.W SL
def g_right : DRs := fun ds st Q => ∃ p : Nat, ds = [.ref p] ∧ Pot 100000 p st ∧ ∀ o : O, PotO 0 o → Q (.bl true) (st.set p o)
theorem ar_right (ds : List D) (st : DSt) (Q : DK) (h : g_right ds st Q) : ds.length = 1 := by
  obtain ⟨_, rfl, _⟩ := h
  rfl
theorem set_same {st : DSt} {p : Nat} {o : O} (e : st[p]? = some o) : st.set p o = st := by
  refine List.ext_getElem? fun i => ?_
  by_cases w : i = p
  · subst w; rw [List.getElem?_set_self (List.getElem?_eq_some_iff.mp e).1, e]
  · rw [List.getElem?_set_ne (fun w' => w w'.symm)]
instance {ps : List (List Int)} {s : Int} {a b : Nat} : Decidable (Far ps s a b) := by unfold Far; infer_instance
theorem far_row {ps : List (List Int)} {s a : Nat} (ha : a < ps.length) : (ordT (farO ps s)).getD a [] = (((List.range ps.length).filter fun b => decide (Far ps s a b)).filter fun b => decide (b ≠ a)).map fun b : Nat => (b : Int) := by
  have o := farO_ord ps s
  refine asc_one (o.tb.asc a ha) ?_ fun x => ?_
  · refine List.Pairwise.map _ (fun (i : Nat) (j : Nat) (h : i < j) => by omega) ?_
    exact (List.pairwise_lt_range).filter _ |>.filter _
  · rw [o.beats ha, List.mem_map]
    constructor
    · rintro ⟨⟨x0, x1⟩, lt⟩
      have e : ((x.toNat : Nat) : Int) = x := Int.toNat_of_nonneg x0
      refine ⟨x.toNat, ?_, e⟩
      have ne : a ≠ x.toNat := fun z => by
        rw [← e, ← z] at lt
        omega
      rw [List.mem_filter, List.mem_filter]
      refine ⟨⟨List.mem_range.mpr (by omega), decide_eq_true ((far_pos ha (by omega) ne).mp ?_)⟩, decide_eq_true (fun z => ne z.symm)⟩
      rw [e]
      exact lt
    · rintro ⟨b, hb, rfl⟩
      rw [List.mem_filter, List.mem_filter] at hb
      obtain ⟨⟨h1, h2⟩, h3⟩ := hb
      have lb := List.mem_range.mp h1
      exact ⟨by omega, (far_pos ha lb (fun z => of_decide_eq_true h3 z.symm)).mpr (of_decide_eq_true h2)⟩
theorem compS {g : DTG} {tt : DTT} {te : DTE} {r : DEnv} {Q : List D → DSt → Prop} {st : DSt} {I : DIt} {α : Type} (ok : okS I st) (f : α → D) (p : α → Bool) (h : α → D) :
    ∀ (items : List α) (acc : List D), (∀ a ∈ items, ∀ Q' : DEnv → DSt → Prop, (∀ r2, EvT tt r2 st (p a) → (p a = true → Ev te r2 st (h a)) → Q' r2 st) → g (f a) r st Q') → Q (acc ++ (items.filter p).map h) st → compL I g tt te r Q (items.map f) acc st
  | [], acc, _, q => by
    have q' : Q acc st := by simpa using q
    show okI I st (Q acc st)
    unfold okI
    rcases ok with e | ⟨n, xs, e, w⟩
    · rw [e]; exact q'
    · rw [e]; exact ⟨w, q'⟩
  | a :: as, acc, hh, q => by
    have z : g (f a) r st fun r2 st2 => tt r2 st2 fun b st3 => if b = true then te r2 st3 fun y st4 => compL I g tt te r Q (as.map f) (acc ++ [y]) st4 else compL I g tt te r Q (as.map f) acc st3 := by
      refine hh a List.mem_cons_self _ fun r2 e1 e2 => e1 _ ?_
      cases e : p a with
      | true =>
        refine iteT (e2 e _ (compS ok f p h as _ (fun d' hd => hh d' (List.mem_cons_of_mem _ hd)) ?_))
        rw [List.filter_cons_of_pos e, List.map_cons] at q
        simpa using q
      | false =>
        refine iteF (compS ok f p h as _ (fun d' hd => hh d' (List.mem_cons_of_mem _ hd)) ?_)
        rw [List.filter_cons_of_neg (by rw [e]; decide)] at q
        exact q
    show okI I st _
    unfold okI
    rcases ok with e | ⟨n, xs, e, w⟩
    · rw [e]; exact z
    · rw [e]; exact ⟨w, z⟩
theorem okI_in {I : DIt} {st : DSt} {P : Prop} (ok : okS I st) (h : P) : okI I st P := by
  unfold okI
  rcases ok with e | ⟨n, xs, e, w⟩
  · rw [e]; exact h
  · rw [e]; exact ⟨w, h⟩
theorem itL_ref {st : DSt} {n : Nat} {xs : List D} (e : st[n]? = some (.lst xs)) : itOf st (.ref n) = some ⟨xs, some (n, xs)⟩ := by unfold itOf; simp only [e]
end DL
namespace DL
open PySem PySem.Spec PyProof.Rows L2 LamX PySem.W SL
theorem compL_inv {te : DTE} {r : DEnv} {Q : List D → DSt → Prop} {xs : List D} {i : Nat} (K : Nat) (W : Nat → List D → DSt → Prop)
    (step : ∀ (k : Nat) (d : D) (acc : List D) (st : DSt) (N : DK), k < K → W k acc st → (∀ y st4, W (k + 1) (acc ++ [y]) st4 → N y st4) → te (r.set i (some d)) st N) (fin : ∀ acc st, W K acc st → Q acc st) :
    ∀ (items acc : List D) (k : Nat) (st : DSt), k + items.length = K → W k acc st → compL ⟨xs, none⟩ (gNm i) dtYes te r Q items acc st
  | [], acc, k, st, e, w => by
    have e' : k = K := e
    subst e'
    exact fin acc st w
  | d :: ds, acc, k, st, e, w => by
    rw [List.length_cons] at e
    show te (r.set i (some d)) st _
    exact step k d acc st _ (by omega) w fun y st4 w4 => compL_inv K W step fin ds _ (k + 1) st4 (by omega) w4
theorem mixed_ord {n : Nat} {ys : List D} (pm : ys.Perm (rgD 0 n)) : ∃ ns : List Int, ys = ns.map D.int ∧ Ord n ns := by
  rw [rg_ints] at pm
  have z : ∀ y ∈ ys, ∃ i : Int, y = .int i := fun y hy => by
    obtain ⟨i, _, rfl⟩ := List.mem_map.mp (pm.mem_iff.mp hy)
    exact ⟨i, rfl⟩
  refine ⟨ys.map fun d => match d with | .int i => i | _ => 0, ?_, ⟨?_⟩⟩
  · rw [List.map_map]
    refine (List.map_id ys).symm.trans (List.map_congr_left fun y hy => ?_)
    obtain ⟨i, rfl⟩ := z y hy
    rfl
  · have w := pm.map (fun d : D => match d with | .int i => i | _ => 0)
    rw [List.map_map] at w
    rw [show ((fun d : D => match d with | .int i => i | _ => 0) ∘ D.int) = id from rfl, List.map_id] at w
    exact w
theorem mixed_rg {p n k : Nat} {st : DSt} {Q : DK} (n1 : n ≤ 64) (pot : Pot (k + n) p st) (q : ∀ (ns : List Int) (o : O), Ord n ns → PotO k o → Q (.lst (ns.map D.int)) (st.set p o)) : g_mixed [.ref p, .lst (rgD 0 n)] st Q := by
  refine ⟨p, _, rgD 0 n, k, rfl, rfl, fun z => (by cases z), by rw [rgD_length]; omega, fun d hd => ?_, by rw [rgD_length]; exact pot, fun ys o2 pm po2 => ?_⟩
  · obtain ⟨i, li, rfl⟩ := rgD_mem hd
    exact (sm_int (by omega) (by omega)).mono (by decide) (by decide)
  · obtain ⟨ns, rfl, on⟩ := mixed_ord pm
    exact q ns o2 on po2
end DL
namespace DL
open PySem PySem.Spec PyProof.Rows L2 LamX PySem.W SL
def g_law : DRs := fun ds st Q => ∃ (ns : List Int) (x : D), ds = [x] ∧ Scr ns x ∧ ns.length ≤ 63 ∧ ∀ st' : DSt, Q (.bl true) st'
theorem ar_law (ds : List D) (st : DSt) (Q : DK) (h : g_law ds st Q) : ds.length = 1 := by
  obtain ⟨_, _, rfl, _⟩ := h
  rfl
theorem compL_true {te : DTE} {r : DEnv} {Q : List D → DSt → Prop} {xs : List D} {i : Nat} : ∀ (items acc : List D) (st : DSt), (∀ d ∈ items, ∀ (st : DSt) (Q' : DK), (∀ st4, Q' (.bl true) st4) → te (r.set i (some d)) st Q') → (∀ st', Q (acc ++ List.replicate items.length (.bl true)) st') → compL ⟨xs, none⟩ (gNm i) dtYes te r Q items acc st
  | [], acc, st, _, q => by
    have q' : Q acc st := by simpa using q st
    exact q'
  | d :: ds, acc, st, h, q => by
    show te (r.set i (some d)) st _
    refine h d List.mem_cons_self st _ fun st4 => compL_true ds _ st4 (fun d' hd => h d' (List.mem_cons_of_mem _ hd)) fun st' => ?_
    have z := q st'
    rw [List.length_cons, List.replicate_succ] at z
    simpa using z
abbrev qLam (x : Str) : Str := (x ++ ".<locals>.") ++ "<lambda>"
def tabsOf : List (Addr × Addr) → List Str → List (Addr × Str)
  | c :: cs, n :: ns => (c.2, qLam n) :: tabsOf cs ns
  | _, _ => []
theorem tabsOf_mem : ∀ {cs : List (Addr × Addr)} {ns : List Str} (p : Addr × Str), p ∈ tabsOf cs ns → ∃ q ∈ cs, q.2 = p.1
  | c :: cs, n :: ns, p, h => by
    rcases List.mem_cons.mp h with z | z
    · rw [z]; exact ⟨c, List.mem_cons_self, rfl⟩
    · obtain ⟨q, hq, e⟩ := tabsOf_mem p z
      exact ⟨q, List.mem_cons_of_mem _ hq, e⟩
  | [], _, p, h => by simp [tabsOf] at h
  | _ :: _, [], p, h => by simp [tabsOf] at h
end DL
namespace DL
open PySem PySem.Spec PyProof.Rows L2 LamX PySem.W SL
mutual
theorem pdT_eqv : ∀ {d : D} {p : PyData}, pdT d = some p → PyData.eqv p p = true
  | .non, _, e => by simp [pdT] at e; subst e; simp [PyData.eqv]
  | .bl b, _, e => by simp [pdT] at e; subst e; simp [PyData.eqv]
  | .int b, _, e => by simp [pdT] at e; subst e; simp [PyData.eqv]
  | .str b, _, e => by simp [pdT] at e; subst e; simp [PyData.eqv]
  | .tup ds, _, e => by
    simp only [pdT, Option.map_eq_some_iff] at e
    obtain ⟨ps, e, rfl⟩ := e
    simp only [PyData.eqv]
    exact pdTs_eqv e
  | .tuk ds, _, e => by
    simp only [pdT, Option.map_eq_some_iff] at e
    obtain ⟨ps, e, rfl⟩ := e
    simp only [PyData.eqv]
    exact pdTs_eqv e
  | .lst ds, _, e => by
    simp only [pdT, Option.map_eq_some_iff] at e
    obtain ⟨ps, e, rfl⟩ := e
    simp only [PyData.eqv]
    exact pdTs_eqv e
  | .scr ds, _, e => by
    simp only [pdT, Option.map_eq_some_iff] at e
    obtain ⟨ps, e, rfl⟩ := e
    simp only [PyData.eqv]
    exact pdTs_eqv e
  | .ref n, _, e => by simp [pdT] at e
theorem pdTs_eqv : ∀ {d : List D} {p : List PyData}, pdTs d = some p → PyData.eqvAll p p = true
  | [], _, e => by simp [pdTs] at e; subst e; simp [PyData.eqvAll]
  | d :: ds, _, e => by
    unfold pdTs at e
    cases q : pdT d with
    | none => rw [q] at e; cases e
    | some y =>
      rw [q] at e
      simp only [Option.map_eq_some_iff] at e
      obtain ⟨ps, e, rfl⟩ := e
      simp only [PyData.eqvAll, pdT_eqv q, pdTs_eqv e, Bool.and_self]
end
theorem ne_tup {st : DSt} {k c : Nat} {xs : List D} {Q : DK} (sm : Sm k c (.tup xs)) (hk : k ≤ 50) (q : Q (.bl false) st) : dEqG true (.tup xs) (.tup xs) st Q := by
  obtain ⟨p, e1, el⟩ := sm
  have p1 : pdS st (.tup xs) = some p := by rw [← e1]; rfl
  show dEqD true (.tup xs) (.tup xs) st Q
  unfold dEqD
  rw [p1]
  refine ⟨⟨Sm.shaped el hk, Sm.shaped el hk⟩, ?_⟩
  show Q (.bl (!PyData.eqv p p)) st
  rw [pdT_eqv e1]
  exact q
end DL
namespace DL
open PySem PySem.Spec PyProof.Rows L2 LamX PySem.W SL
theorem R_ord (n : Nat) : Ord n (R n) := ⟨.refl _⟩
theorem o1 : Ord 1 [0] := R_ord 1
theorem t1 : ordT [0] = [[]] := by
  have tb := o1.tb
  have l := tb.len
  obtain ⟨r, e⟩ := List.length_eq_one_iff.mp l
  have rr : r = [] := by
    refine List.eq_nil_iff_forall_not_mem.mpr fun x hx => ?_
    have m := tb.inr 0 (by omega) x (by rw [e]; exact hx)
    have ii := tb.irr (a := 0) (by omega)
    refine ii ?_
    unfold Beats
    rw [e]
    have : x = 0 := by omega
    rw [this] at hx
    exact hx
  rw [e, rr]
end DL
namespace DL
open PySem PySem.Spec PyProof.Rows L2 LamX PySem.W SL
end DL
namespace DL
open PySem PySem.Spec PyProof.Rows L2 LamX PySem.W SL
end DL
namespace DL
open PySem PySem.Spec PyProof.Rows L2 LamX PySem.W SL
end DL
namespace ML
def step (f c : Int) : Int := if f + c - 1 > 0 then f + c - 1 else 0
def run (f : Int) (c : List Int) : Int := c.foldl step f
def scan (f : Int) : List Int → List Int
  | [] => []
  | x :: r => step f x :: scan (step f x) r
theorem step_nn (f c : Int) : 0 ≤ step f c := by unfold step; split <;> omega
theorem step_mono {f g c : Int} (h : f ≤ g) : step f c ≤ step g c := by unfold step; split <;> split <;> omega
theorem run_nn {f : Int} (h : 0 ≤ f) : ∀ c : List Int, 0 ≤ run f c := by
  intro c
  induction c generalizing f with
  | nil => exact h
  | cons x r ih => exact ih (step_nn f x)
theorem run_mono {f g : Int} (h : f ≤ g) : ∀ c : List Int, run f c ≤ run g c := by
  intro c
  induction c generalizing f g with
  | nil => exact h
  | cons x r ih => exact ih (step_mono h)
theorem run_cons (f x : Int) (r : List Int) : run f (x :: r) = run (step f x) r := rfl
theorem run_append (f : Int) (a b : List Int) : run f (a ++ b) = run (run f a) b := by unfold run; rw [List.foldl_append]
theorem scan_length (f : Int) : ∀ c : List Int, (scan f c).length = c.length := by
  intro c
  induction c generalizing f with
  | nil => rfl
  | cons x r ih => show _ + 1 = _ + 1; rw [ih]
theorem scan_nn (f : Int) : ∀ (c : List Int) (x : Int), x ∈ scan f c → 0 ≤ x := by
  intro c
  induction c generalizing f with
  | nil => intro x h; cases h
  | cons y r ih =>
    intro x h
    rcases List.mem_cons.mp h with z | z
    · rw [z]; exact step_nn _ _
    · exact ih _ x z
theorem scan_at (f : Int) : ∀ (c : List Int) (i : Nat), i < c.length → (scan f c)[i]? = some (run f (c.take (i + 1))) := by
  intro c
  induction c generalizing f with
  | nil => intro i h; cases h
  | cons x r ih =>
    intro i h
    cases i with
    | zero => rfl
    | succ i =>
      show (scan (step f x) r)[i]? = _
      rw [ih _ i (by simpa using h)]
      rfl
def sumL (c : List Int) : Int := c.foldr (· + ·) 0
theorem sumL_cons (x : Int) (r : List Int) : sumL (x :: r) = x + sumL r := rfl
theorem run_either : ∀ (c : List Int) (f g : Int), f ≤ g → run g c = run f c ∨ run g c = g + sumL c - c.length := by
  intro c
  induction c with
  | nil => intro f g h; right; show g = g + 0 - ((0 : Nat) : Int); omega
  | cons x r ih =>
    intro f g h
    rw [run_cons, run_cons, sumL_cons, List.length_cons]
    by_cases e : g + x - 1 > 0
    · have eg : step g x = g + x - 1 := by unfold step; rw [if_pos e]
      rcases ih (step f x) (step g x) (step_mono h) with z | z
      · exact .inl z
      · right; rw [z, eg]; omega
    · have eg : step g x = 0 := by unfold step; rw [if_neg e]
      have ef : step f x = 0 := by unfold step; rw [if_neg (by omega)]
      left; rw [eg, ef]
theorem run_again {c : List Int} (room : sumL c ≤ c.length) : run (run 0 c) c = run 0 c := by
  have nn : 0 ≤ run 0 c := run_nn (Int.le_refl 0) c
  rcases run_either c 0 (run 0 c) nn with z | z
  · exact z
  · have := run_mono nn c
    omega
theorem scan_zero : ∀ (c : List Int) (x y : Int), y < x → run x c = run y c → (0 : Int) ∈ scan x c := by
  intro c
  induction c with
  | nil => intro x y h e; have : x = y := e; omega
  | cons a r ih =>
    intro x y h e
    by_cases q : step x a = step y a
    · have : step x a = 0 := by
        unfold step at q ⊢
        split at q <;> split at q <;> omega
      show (0 : Int) ∈ step x a :: scan (step x a) r
      rw [this]
      exact List.mem_cons_self
    · have : step y a < step x a := by
        have := step_mono (c := a) (Int.le_of_lt h)
        omega
      exact List.mem_cons_of_mem _ (ih _ _ this e)
def flowsI (c : List Int) : List Int := scan (run 0 c) c
theorem flowsI_length (c : List Int) : (flowsI c).length = c.length := scan_length _ _
theorem scan_last {c : List Int} (f : Int) (h : c ≠ []) : (scan f c)[c.length - 1]? = some (run f c) := by
  have l := List.length_pos_iff.mpr h
  rw [scan_at f c (c.length - 1) (by omega), show c.length - 1 + 1 = c.length by omega, List.take_length]
theorem flowsI_zero {c : List Int} (h : c ≠ []) (room : sumL c ≤ c.length) : (0 : Int) ∈ flowsI c := by
  by_cases e : run 0 c = 0
  · have z := scan_last (run 0 c) h
    rw [run_again room, e] at z
    unfold flowsI
    rw [e]
    exact List.mem_of_getElem? z
  · have nn : 0 ≤ run 0 c := run_nn (Int.le_refl 0) c
    exact scan_zero c (run 0 c) 0 (by omega) (run_again room)
structure Flow (n : Nat) (c f : Nat → Int) : Prop where
  per : ∀ i, f (i + n) = f i
  nn : ∀ i, 0 ≤ f i
  rec_ : ∀ i, f (i + 1) = step (f i) (c (i + 1))
  zero : ∃ z, f z = 0
def cy (c : List Int) (i : Nat) : Int := c.getD (i % c.length) 0
theorem cy_per (c : List Int) (i : Nat) : cy c (i + c.length) = cy c i := by unfold cy; rw [Nat.add_mod_right]
theorem cy_lt {c : List Int} {i : Nat} (h : i < c.length) : cy c i = c.getD i 0 := by unfold cy; rw [Nat.mod_eq_of_lt h]
theorem per_mul {n : Nat} {f : Nat → Int} (h : ∀ i, f (i + n) = f i) (i : Nat) : ∀ m, f (i + n * m) = f i
  | 0 => rfl
  | m + 1 => by rw [Nat.mul_succ, ← Nat.add_assoc, h, per_mul h i m]
theorem per_mod {n : Nat} {f : Nat → Int} (h : ∀ i, f (i + n) = f i) (i : Nat) : f (i % n) = f i := by
  have z := per_mul h (i % n) (i / n)
  rw [Nat.mod_add_div] at z
  exact z.symm
theorem getD_of {c : List Int} {i : Nat} {x : Int} (h : c[i]? = some x) : c.getD i 0 = x := by rw [List.getD_eq_getElem?_getD, h]; rfl
theorem flowsI_flow {c : List Int} (h : c ≠ []) (room : sumL c ≤ c.length) : Flow c.length (cy c) (cy (flowsI c)) := by
  have l := List.length_pos_iff.mpr h
  have lf := flowsI_length c
  have at_ : ∀ i, i < c.length → cy (flowsI c) i = run (run 0 c) (c.take (i + 1)) := fun i hi => by
    rw [cy_lt (by rw [lf]; exact hi)]
    exact getD_of (scan_at _ _ _ hi)
  have per : ∀ i, cy (flowsI c) (i + c.length) = cy (flowsI c) i := fun i => by
    have z := cy_per (flowsI c) i
    rw [lf] at z
    exact z
  refine ⟨per, fun i => ?_, fun i => ?_, ?_⟩
  · rw [← per_mod per, at_ _ (Nat.mod_lt _ l)]
    exact run_nn (run_nn (Int.le_refl 0) c) _
  · rw [← per_mod per i, ← per_mod per (i + 1), ← per_mod (cy_per c) (i + 1)]
    have lt := Nat.mod_lt i l
    have tk : ∀ k, k < c.length → c.take (k + 1) = c.take k ++ [c.getD k 0] := fun k hk => by
      rw [List.take_succ, List.getElem?_eq_getElem hk, List.getD_eq_getElem?_getD, List.getElem?_eq_getElem hk]
      rfl
    by_cases e : i % c.length + 1 = c.length
    · have e2 : (i + 1) % c.length = 0 := by
        have : (i + 1) % c.length = (i % c.length + 1) % c.length := by rw [Nat.add_mod]; simp
        rw [this, e, Nat.mod_self]
      rw [e2, at_ _ l, at_ _ lt, e, List.take_length, tk 0 l, run_append, run_again room, cy_lt l]
      rfl
    · have e2 : (i + 1) % c.length = i % c.length + 1 := by
        have : (i + 1) % c.length = (i % c.length + 1) % c.length := by rw [Nat.add_mod]; simp
        rw [this, Nat.mod_eq_of_lt (by omega)]
      rw [e2, at_ _ (by omega), at_ _ lt, tk _ (show i % c.length + 1 < c.length by omega), run_append, cy_lt (by omega)]
      rfl
  · obtain ⟨i, hi⟩ := List.mem_iff_getElem?.mp (flowsI_zero h room)
    refine ⟨i, ?_⟩
    have lt := (List.getElem?_eq_some_iff.mp hi).1
    rw [cy_lt lt]
    exact getD_of hi
theorem Flow.le {n : Nat} {c f g : Nat → Int} (F : Flow n c f) (G : Flow n c g) (n0 : 0 < n) (i : Nat) : f i ≤ g i := by
  obtain ⟨z, hz⟩ := F.zero
  have up : ∀ k, f (z + k) ≤ g (z + k) := by
    intro k
    induction k with
    | zero => rw [Nat.add_zero, hz]; exact G.nn z
    | succ k ih => rw [← Nat.add_assoc, F.rec_, G.rec_]; exact step_mono ih
  have e : i + n * (z + 1) = z + (i + n * (z + 1) - z) := by
    have : z + 1 ≤ n * (z + 1) := Nat.le_mul_of_pos_left _ n0
    omega
  rw [← per_mul F.per i (z + 1), ← per_mul G.per i (z + 1), e]
  exact up _
theorem Flow.one {n : Nat} {c f g : Nat → Int} (F : Flow n c f) (G : Flow n c g) (n0 : 0 < n) (i : Nat) : f i = g i := by
  have := F.le G n0 i
  have := G.le F n0 i
  omega
end ML
namespace ML
def sumN (n : Nat) (g : Nat → Int) : Int := match n with
  | 0 => 0
  | n + 1 => sumN n g + g n
theorem sumN_congr {n : Nat} {g h : Nat → Int} (e : ∀ i, i < n → g i = h i) : sumN n g = sumN n h := by
  induction n with
  | zero => rfl
  | succ n ih => show _ + _ = _ + _; rw [ih fun i hi => e i (by omega), e n (by omega)]
theorem sumN_add (n : Nat) (g h : Nat → Int) : sumN n (fun i => g i + h i) = sumN n g + sumN n h := by
  induction n with
  | zero => rfl
  | succ n ih => show sumN n (fun i => g i + h i) + (g n + h n) = (sumN n g + g n) + (sumN n h + h n); rw [ih]; omega
theorem sumN_le {n : Nat} {g h : Nat → Int} (e : ∀ i, i < n → g i ≤ h i) : sumN n g ≤ sumN n h := by
  induction n with
  | zero => exact Int.le_refl _
  | succ n ih =>
    show sumN n g + g n ≤ sumN n h + h n
    have := ih fun i hi => e i (by omega)
    have := e n (by omega)
    omega
theorem sumN_const (n : Nat) (x : Int) : sumN n (fun _ => x) = n * x := by
  induction n with
  | zero => show (0 : Int) = ((0 : Nat) : Int) * x; simp
  | succ n ih => show sumN n (fun _ => x) + x = ((n + 1 : Nat) : Int) * x; rw [ih, Int.natCast_add, Int.add_mul]; simp
theorem sumN_first (n : Nat) (g : Nat → Int) : sumN (n + 1) g = g 0 + sumN n (fun i => g (i + 1)) := by
  induction n with
  | zero => show (0 : Int) + g 0 = g 0 + 0; omega
  | succ n ih =>
    show sumN (n + 1) g + g (n + 1) = g 0 + (sumN n (fun i => g (i + 1)) + g (n + 1))
    rw [ih]
    omega
theorem sumN_shift {n : Nat} {g : Nat → Int} (per : g n = g 0) : sumN n (fun i => g (i + 1)) = sumN n g := by
  have a := sumN_first n g
  have b : sumN (n + 1) g = sumN n g + g n := rfl
  omega
theorem sumN_shifts {n : Nat} {g : Nat → Int} (per : ∀ i, g (i + n) = g i) (s : Nat) : sumN n (fun i => g (i + s)) = sumN n g := by
  induction s with
  | zero => rfl
  | succ s ih =>
    rw [← ih, ← sumN_shift (g := fun i => g (i + s)) (by show g (n + s) = g (0 + s); rw [Nat.add_comm n s, per, Nat.zero_add])]
    exact sumN_congr fun i _ => by show g (i + (s + 1)) = g (i + 1 + s); rw [show i + (s + 1) = i + 1 + s by omega]
theorem sumL_append (a b : List Int) : sumL (a ++ b) = sumL a + sumL b := by
  induction a with
  | nil => show sumL b = 0 + sumL b; omega
  | cons x r ih => show x + sumL (r ++ b) = x + sumL r + sumL b; rw [ih]; omega
theorem sumL_N : ∀ l : List Int, sumL l = sumN l.length (fun i => l.getD i 0) := by
  intro l
  induction l with
  | nil => rfl
  | cons x r ih =>
    rw [sumL_cons, List.length_cons, sumN_first, ih]
    rfl
theorem sumL_cy (l : List Int) : sumL l = sumN l.length (cy l) := by
  rw [sumL_N]
  exact sumN_congr fun i h => (cy_lt h).symm
def dist (n a i : Nat) : Nat := (i + (n - a)) % n
theorem dist_lt {n a i : Nat} (h : 0 < n) : dist n a i < n := Nat.mod_lt _ h
theorem dist_succ {n a i : Nat} (h : 0 < n) : dist n a (i + 1) = if dist n a i + 1 = n then 0 else dist n a i + 1 := by
  unfold dist
  have lt := Nat.mod_lt (i + (n - a)) h
  have e : (i + 1 + (n - a)) % n = ((i + (n - a)) % n + 1) % n := by
    rw [show i + 1 + (n - a) = (i + (n - a)) + 1 by omega]
    rw [Nat.add_mod]; simp
  rw [e]
  split
  · rename_i q; rw [q, Nat.mod_self]
  · exact Nat.mod_eq_of_lt (by omega)
theorem dist_add {n a k : Nat} (ha : a < n) (hk : k < n) : dist n a (a + k) = k := by
  unfold dist
  rw [show a + k + (n - a) = k + n by omega, Nat.add_mod_right, Nat.mod_eq_of_lt hk]
theorem dist_per {n a i : Nat} : dist n a (i + n) = dist n a i := by
  unfold dist
  rw [show i + n + (n - a) = i + (n - a) + n by omega, Nat.add_mod_right]
theorem dist_zero {n a i : Nat} (ha : a < n) (hi : i < n) : dist n a i = 0 ↔ i = a := by
  unfold dist
  constructor
  · intro h
    have h' := Nat.dvd_of_mod_eq_zero h
    obtain ⟨m, hm⟩ := h'
    have : m = 1 := by
      rcases Nat.lt_or_ge m 2 with q | q
      · rcases Nat.eq_zero_or_pos m with z | z
        · subst z; omega
        · omega
      · have : n * 2 ≤ n * m := Nat.mul_le_mul_left n q
        omega
    subst this
    omega
  · intro h
    subst h
    rw [show i + (n - i) = n by omega, Nat.mod_self]
theorem dist_eq {n a i k : Nat} (ha : a < n) (hi : i < n) (hk : k < n) : dist n a i = k ↔ i = (a + k) % n := by
  unfold dist
  rcases Nat.lt_or_ge i a with q | q
  · rw [show i + (n - a) = n - a + i by omega, Nat.mod_eq_of_lt (by omega)]
    constructor
    · intro h
      rw [show a + k = i + n by omega, Nat.add_mod_right, Nat.mod_eq_of_lt hi]
    · intro h
      rcases Nat.lt_or_ge (a + k) n with w | w
      · rw [Nat.mod_eq_of_lt w] at h; omega
      · rw [show a + k = (a + k - n) + n by omega, Nat.add_mod_right, Nat.mod_eq_of_lt (by omega)] at h; omega
  · rw [show i + (n - a) = (i - a) + n by omega, Nat.add_mod_right, Nat.mod_eq_of_lt (by omega)]
    constructor
    · intro h
      rw [show a + k = i by omega, Nat.mod_eq_of_lt hi]
    · intro h
      rcases Nat.lt_or_ge (a + k) n with w | w
      · rw [Nat.mod_eq_of_lt w] at h; omega
      · rw [show a + k = (a + k - n) + n by omega, Nat.add_mod_right, Nat.mod_eq_of_lt (by omega)] at h; omega
def tk (c f : Nat → Int) (i : Nat) : Prop := 0 < f i + c (i + 1)
def addC (n a : Nat) (c : Nat → Int) : Nat → Int := fun i => c i + if dist n a i = 0 then 1 else 0
def addF (n a L : Nat) (f : Nat → Int) : Nat → Int := fun i => f i + if dist n a i < L then 1 else 0
theorem Flow.at_ {n : Nat} {c f : Nat → Int} (F : Flow n c f) {i : Nat} (h : tk c f i) : f (i + 1) = f i + c (i + 1) - 1 := by
  unfold tk at h
  rw [F.rec_]
  unfold step
  split <;> omega
theorem Flow.off {n : Nat} {c f : Nat → Int} (F : Flow n c f) {i : Nat} (h : ¬ tk c f i) : f (i + 1) = 0 := by
  unfold tk at h
  rw [F.rec_]
  unfold step
  split <;> omega
structure Passed (n a L : Nat) (c f : Nat → Int) : Prop where
  ha : a < n
  lt : L < n
  yes : ∀ i, dist n a (i + 1) < L → tk c f i
  no : ∀ i, dist n a (i + 1) = L → ¬ tk c f i
theorem Flow.more {n a L : Nat} {c f : Nat → Int} (F : Flow n c f) (c0 : ∀ i, 0 ≤ c i) (P : Passed n a L c f) : Flow n (addC n a c) (addF n a L f) := by
  have n0 : 0 < n := Nat.lt_of_le_of_lt (Nat.zero_le _) P.ha
  refine ⟨fun i => ?_, fun i => ?_, fun i => ?_, ?_⟩
  · unfold addF; rw [F.per, dist_per]
  · unfold addF; have := F.nn i; split <;> omega
  · unfold addF addC
    have ds := dist_succ (n := n) (a := a) (i := i) n0
    have lt0 := dist_lt (n := n) (a := a) (i := i) n0
    have ci := c0 (i + 1)
    have fi := F.nn i
    rcases Nat.lt_trichotomy (dist n a (i + 1)) L with q | q | q
    · have t := P.yes i q
      have e := F.at_ t
      unfold tk at t
      unfold step
      by_cases z : dist n a i + 1 = n
      · rw [if_pos z] at ds
        rw [if_pos q, e, if_neg (show ¬ dist n a i < L by have := P.lt; omega), if_pos ds]
        split <;> omega
      · rw [if_neg z] at ds
        rw [if_pos q, e, if_pos (show dist n a i < L by omega), if_neg (show ¬ dist n a (i + 1) = 0 by omega)]
        split <;> omega
    · have t := P.no i q
      have e := F.off t
      unfold tk at t
      unfold step
      by_cases z : dist n a i + 1 = n
      · rw [if_pos z] at ds
        rw [if_neg (show ¬ dist n a (i + 1) < L by omega), e, if_neg (show ¬ dist n a i < L by have := P.lt; omega), if_pos ds]
        split <;> omega
      · rw [if_neg z] at ds
        rw [if_neg (show ¬ dist n a (i + 1) < L by omega), e, if_pos (show dist n a i < L by omega), if_neg (show ¬ dist n a (i + 1) = 0 by omega)]
        split <;> omega
    · have z : ¬ dist n a i + 1 = n := fun z => by rw [if_pos z] at ds; omega
      rw [if_neg z] at ds
      rw [if_neg (show ¬ dist n a (i + 1) < L by omega), if_neg (show ¬ dist n a i < L by omega), if_neg (show ¬ dist n a (i + 1) = 0 by omega), F.rec_]
      simp
  · refine ⟨a + L + n, ?_⟩
    have e : a + L + n = (a + L + (n - 1)) + 1 := by omega
    have d : dist n a ((a + L + (n - 1)) + 1) = L := by rw [← e, dist_per, dist_add P.ha P.lt]
    unfold addF
    rw [e, d, F.off (P.no _ d), if_neg (Nat.lt_irrefl _)]
    rfl
theorem tk_more {n a L : Nat} {c f : Nat → Int} (F : Flow n c f) (c0 : ∀ i, 0 ≤ c i) (P : Passed n a L c f) (i : Nat) : tk (addC n a c) (addF n a L f) i ↔ tk c f i ∨ dist n a (i + 1) = L := by
  have n0 : 0 < n := Nat.lt_of_le_of_lt (Nat.zero_le _) P.ha
  have ds := dist_succ (n := n) (a := a) (i := i) n0
  have lt0 := dist_lt (n := n) (a := a) (i := i) n0
  have ci := c0 (i + 1)
  have fi := F.nn i
  rcases Nat.lt_trichotomy (dist n a (i + 1)) L with q | q | q
  · have t := P.yes i q
    refine ⟨fun _ => .inl t, fun _ => ?_⟩
    unfold tk at t ⊢
    unfold addC addF
    split <;> split <;> omega
  · refine ⟨fun _ => .inr q, fun _ => ?_⟩
    unfold tk addC addF
    by_cases z : dist n a i + 1 = n
    · rw [if_pos z] at ds
      rw [if_pos ds]
      split <;> omega
    · rw [if_neg z] at ds
      rw [if_pos (show dist n a i < L by omega)]
      split <;> omega
  · have z : ¬ dist n a i + 1 = n := fun z => by rw [if_pos z] at ds; omega
    rw [if_neg z] at ds
    unfold tk addC addF
    rw [if_neg (show ¬ dist n a i < L by omega), if_neg (show ¬ dist n a (i + 1) = 0 by omega)]
    constructor
    · intro h; left; omega
    · rintro (h | h)
      · omega
      · omega
theorem Flow.room {n : Nat} {c f : Nat → Int} (F : Flow n c f) (cp : ∀ i, c (i + n) = c i) (n0 : 0 < n) (h : sumN n c < n) : ∃ i, i < n ∧ ¬ tk c f i := by
  apply Classical.byContradiction
  intro no
  have all : ∀ i, i < n → tk c f i := fun i hi => Classical.byContradiction fun q => no ⟨i, hi, q⟩
  have tel : ∀ m, m ≤ n → sumN m (fun i => c (i + 1)) = f m - f 0 + m := by
    intro m
    induction m with
    | zero => intro _; show (0 : Int) = f 0 - f 0 + ((0 : Nat) : Int); omega
    | succ m ih =>
      intro hm
      show sumN m (fun i => c (i + 1)) + c (m + 1) = _
      rw [ih (by omega), F.at_ (all m (by omega))]
      omega
  have a := tel n (Nat.le_refl n)
  have b := sumN_shift (n := n) (g := c) (by have := cp 0; rw [Nat.zero_add] at this; exact this)
  have p := F.per 0
  rw [Nat.zero_add] at p
  omega
theorem Flow.way {n a : Nat} {c f : Nat → Int} (F : Flow n c f) (cp : ∀ i, c (i + n) = c i) (ha : a < n) (h : sumN n c < n) : ∃ L, Passed n a L c f := by
  have n0 : 0 < n := by omega
  obtain ⟨i, hi, no⟩ := F.room cp n0 h
  have per : ∀ j, tk c f (j + n) ↔ tk c f j := fun j => by unfold tk; rw [F.per, show j + n + 1 = j + 1 + n by omega, cp]
  -- the least distance at which a slot is not taken
  have ex : ∃ k, k < n ∧ ∃ i, dist n a (i + 1) = k ∧ ¬ tk c f i := ⟨dist n a (i + 1), dist_lt n0, i, rfl, no⟩
  have least : ∀ k, (k < n ∧ ∃ i, dist n a (i + 1) = k ∧ ¬ tk c f i) → ∃ L, (L < n ∧ ∃ i, dist n a (i + 1) = L ∧ ¬ tk c f i) ∧ ∀ j, j < L → ¬ (∃ i, dist n a (i + 1) = j ∧ ¬ tk c f i) := by
    intro k
    induction k using Nat.strongRecOn with
    | _ k ih =>
      intro hk
      by_cases q : ∃ j, j < k ∧ ∃ i, dist n a (i + 1) = j ∧ ¬ tk c f i
      · obtain ⟨j, lj, hj⟩ := q
        exact ih j lj ⟨by omega, hj⟩
      · exact ⟨k, hk, fun j lj hj => q ⟨j, lj, hj⟩⟩
  obtain ⟨k, hk⟩ := ex
  obtain ⟨L, ⟨lL, i0, e0, n0'⟩, lst⟩ := least k hk
  refine ⟨L, ha, lL, fun i q => ?_, fun i q t => ?_⟩
  · exact Classical.byContradiction fun z => lst _ q ⟨i, rfl, z⟩
  · -- the same slot, but for rounds
    have same : (i + 1) % n = (i0 + 1) % n := by
      have m1 := (dist_eq (n := n) (a := a) (i := (i + 1) % n) (k := L) ha (Nat.mod_lt _ n0) lL).mp (by
        rw [← q]; unfold dist; rw [Nat.mod_add_mod])
      have m2 := (dist_eq (n := n) (a := a) (i := (i0 + 1) % n) (k := L) ha (Nat.mod_lt _ n0) lL).mp (by
        rw [← e0]; unfold dist; rw [Nat.mod_add_mod])
      rw [m1, m2]
    have pm : ∀ (j m : Nat), tk c f (j + n * m) ↔ tk c f j := by
      intro j m
      induction m with
      | zero => exact Iff.rfl
      | succ m ih => rw [Nat.mul_succ, ← Nat.add_assoc, per]; exact ih
    have e1 := Nat.mod_add_div (i + 1) n
    have e2 := Nat.mod_add_div (i0 + 1) n
    rcases Nat.le_total ((i + 1) / n) ((i0 + 1) / n) with w | w
    · obtain ⟨m, hm⟩ := Nat.exists_eq_add_of_le w
      have : i0 = i + n * m := by
        rw [hm, Nat.mul_add] at e2
        omega
      rw [this] at n0'
      exact n0' ((pm i m).mpr t)
    · obtain ⟨m, hm⟩ := Nat.exists_eq_add_of_le w
      have : i = i0 + n * m := by
        rw [hm, Nat.mul_add] at e1
        omega
      rw [this] at t
      exact n0' ((pm i0 m).mp t)
theorem sum_addF {n a L : Nat} {f : Nat → Int} (ha : a < n) (hL : L ≤ n) : sumN n (addF n a L f) = sumN n f + L := by
  unfold addF
  rw [sumN_add]
  have n0 : 0 < n := by omega
  have e : sumN n (fun i => if dist n a i < L then (1 : Int) else 0) = sumN n (fun i => if i % n < L then (1 : Int) else 0) :=
    sumN_shifts (g := fun i => if i % n < L then (1 : Int) else 0) (fun i => by simp only [Nat.add_mod_right]) (n - a)
  have cnt : ∀ m, m ≤ n → sumN m (fun i => if i % n < L then (1 : Int) else 0) = ((min m L : Nat) : Int) := by
    intro m
    induction m with
    | zero => intro _; simp [sumN]
    | succ m ih =>
      intro hm
      show sumN m _ + _ = _
      rw [ih (by omega)]
      simp only [Nat.mod_eq_of_lt (show m < n by omega)]
      split <;> omega
  rw [e, cnt n (Nat.le_refl n), Nat.min_eq_right hL]
end ML
namespace ML
def stepR (f : Int) (p : Int × Int) : Int := if f + p.1 * (p.2 - 1) > 0 then f + p.1 * (p.2 - 1) else 0
def runR (f : Int) (rs : List (Int × Int)) : Int := rs.foldl stepR f
def scanR (f : Int) : List (Int × Int) → List Int
  | [] => []
  | x :: r => stepR f x :: scanR (stepR f x) r
def flowsR (rs : List (Int × Int)) : List Int := scanR (runR 0 rs) rs
theorem stepR_one (f c : Int) : stepR f (1, c) = step f c := by
  unfold stepR step
  have : f + (1 : Int) * (c - 1) = f + c - 1 := by omega
  rw [this]
theorem runR_one (f : Int) : ∀ c : List Int, runR f (c.map fun x => (1, x)) = run f c := by
  intro c
  induction c generalizing f with
  | nil => rfl
  | cons x r ih => show runR (stepR f (1, x)) _ = run (step f x) r; rw [stepR_one]; exact ih _
theorem scanR_one (f : Int) : ∀ c : List Int, scanR f (c.map fun x => (1, x)) = scan f c := by
  intro c
  induction c generalizing f with
  | nil => rfl
  | cons x r ih => show stepR f (1, x) :: scanR (stepR f (1, x)) _ = step f x :: scan (step f x) r; rw [stepR_one, ih]
theorem flowsR_one (c : List Int) : flowsR (c.map fun x => (1, x)) = flowsI c := by
  unfold flowsR flowsI
  rw [runR_one, scanR_one]
theorem scanR_length (f : Int) : ∀ c : List (Int × Int), (scanR f c).length = c.length := by
  intro c
  induction c generalizing f with
  | nil => rfl
  | cons x r ih => show _ + 1 = _ + 1; rw [ih]
theorem scanR_app (f : Int) (x : Int × Int) : ∀ c : List (Int × Int), scanR f (c ++ [x]) = scanR f c ++ [stepR (runR f c) x] := by
  intro c
  induction c generalizing f with
  | nil => rfl
  | cons y r ih => show stepR f y :: scanR (stepR f y) (r ++ [x]) = _; rw [ih]; rfl
theorem runR_app (f : Int) (x : Int × Int) (c : List (Int × Int)) : runR f (c ++ [x]) = stepR (runR f c) x := by unfold runR; rw [List.foldl_append]; rfl
theorem sum_sumL (l : List Int) : l.sum = sumL l := by
  induction l with
  | nil => rfl
  | cons x r ih => rw [List.sum_cons, ih]; rfl
theorem sum_ones (c : List Int) : (c.map fun _ => (1 : Int)).sum = c.length := by
  induction c with
  | nil => rfl
  | cons x r ih => rw [List.map_cons, List.sum_cons, ih, List.length_cons]; omega
end ML
namespace DL
open PySem PySem.Spec PyProof.Rows L2 LamX PySem.W SL
theorem for_list {α : Type} {I : DIt} {g : DTG} {F : DTS} {E : DEnds} {b : DSt} (enc : α → D) (W : List α → DEnv → DSt → Prop)
    (turn : ∀ x xs r st (N : DEnv → DSt → Prop), (∀ r st, Wk b (W xs) r st → N r st) → W (x :: xs) r st → okI I st (g (enc x) r st fun r1 st1 => F { nx := N, rt := E.rt, bk := E.nx, ct := N } r1 st1)) (done : ∀ r st, W [] r st → okI I st (E.nx r st)) :
    ∀ (items : List α) (r : DEnv) (st : DSt), W items r st → forL I g F E b (items.map enc) r st
  | [], r, st, h => done r st h
  | d :: ds, r, st, h => by
    refine turn d ds r st _ (fun r st w => ?_) h
    rcases w with w | ⟨r', n, h1, h2, h3, h4, h5, w⟩
    · exact .inl (for_list enc W turn done ds r st w)
    · exact .inr ⟨r', n, h1, h2, h3, h4, h5, for_list enc W turn done ds r' _ w⟩
theorem lc_pair {α : Type} {te : DTE} {r : DEnv} {Q : List D → DSt → Prop} {st : DSt} {ys : List D} {g : DTG} (enc : α → D) (h : α → D) (xs : List α)
    (he : ∀ x ∈ xs, ∀ Q' : DEnv → DSt → Prop, (∀ r2, Ev te r2 st (h x) → Q' r2 st) → g (enc x) r st Q') (q : Q (xs.map h) st) : compL ⟨ys, none⟩ g dtYes te r Q (xs.map enc) [] st := by
  have gen : ∀ (zs : List α) (acc : List D), (∀ x ∈ zs, x ∈ xs) → Q (acc ++ zs.map h) st → compL ⟨ys, none⟩ g dtYes te r Q (zs.map enc) acc st := by
    intro zs
    induction zs with
    | nil => intro acc _ q; have q' : Q acc st := by simpa using q
             exact q'
    | cons z zs ih =>
      intro acc sub q
      show g (enc z) r st _
      refine he z (sub z List.mem_cons_self) _ fun r2 e => ?_
      show te r2 st _
      refine (e _ (ih _ (fun x hx => sub x (List.mem_cons_of_mem _ hx)) ?_))
      simpa using q
  exact gen xs [] (fun x hx => hx) (by simpa using q)
def pairD (p : Int × Int) : D := .tup [.int p.1, .int p.2]
def Runs (rs : List (Int × Int)) (d : D) : Prop := d = .lst (rs.map pairD) ∨ d = .tup (rs.map pairD)
theorem Runs.it {rs : List (Int × Int)} {d : D} (h : Runs rs d) (st : DSt) : itOf st d = some ⟨rs.map pairD, none⟩ := by rcases h with rfl | rfl <;> rfl
theorem Runs.clo {rs : List (Int × Int)} {d : D} (h : Runs rs d) (n : Nat) : DL.clo n d = true := by
  have z : ∀ rs : List (Int × Int), clos n (rs.map pairD) = true := by
    intro rs
    induction rs with
    | nil => rfl
    | cons p r ih => rw [List.map_cons]; simp [clos, DL.clo, pairD, ih]
  rcases h with rfl | rfl <;> simp only [DL.clo] <;> exact z rs
def Small (x : Int) : Prop := -(2 ^ 64) < x ∧ x < 2 ^ 64
def g_flowB : DRs := fun ds st Q => ∃ (f : Int) (p : Int × Int), ds = [.int f, .int p.1, .int p.2] ∧ Small p.1 ∧ Q (.int (ML.stepR f p)) st
theorem ar_flowB (ds : List D) (st : DSt) (Q : DK) (h : g_flowB ds st Q) : ds.length = 3 := by
  obtain ⟨_, _, rfl, _⟩ := h
  rfl
theorem sem_flowB (ds : List D) (st : DSt) (Q : DK) (h : g_flowB ds st Q) : F_flow_behind { nx := fun _ st' => Rt st Q .non st', rt := Rt st Q } (startD 3 ds) st := by
  obtain ⟨f, p, rfl, sm, q⟩ := h
  have st3 : startD 3 [D.int f, D.int p.1, D.int p.2] = [some (.int f), some (.int p.1), some (.int p.2)] := rfl
  simp only [F_flow_behind, st3, e_var, e_C, e_op, e_neg, e_isN, e_notN, e_and, e_or, e_not, e_test, e_tAnd, e_tOr, e_tNot, e_tYes, e_if, e_aNil, e_aCons, e_tup, e_lst, e_lstN, e_len0, e_len1, e_len2, e_len3, e_len4, e_len5, e_cb, e_on1, e_on2, e_onI, e_onB, e_onO, e_onO0, e_onOO, e_I0, e_I, e_add, e_addT, e_addS, e_addL, e_addLR, e_addRL, e_addRR, e_mul, e_mulL, e_mulT, e_rev, e_revT, e_ix, e_eqI, e_eqS, e_eqB, e_neI, e_neS, e_neB, e_ltI, e_chain, e_len, e_abs, e_2I, e_tuple1, e_tuple2, e_tuple3, e_listT, e_listN, e_allR, e_seqT, e_seqK, e_seqL, e_isi, e_isB, e_notB, e_truth, e_next, e_seq, e_drop, e_ret, e_retN, e_ifS, e_set, e_asg, e_par, e_nm, e_gsN, e_gsC, e_gTpK, e_gTpL, e_sum, e_maxL, e_minL, e_maxDef, e_int, e_intB, e_aug, e_on3, e_par3, e_newK, e_getK, e_keyI, e_keyS, e_inK, e_ninK, e_putK, e_lenK, e_lstS, e_seqX, e_gTpT, e_oN, e_oS, e_sl, e_slT, e_slL, e_finT, e_finN, e_index, e_idxT, e_idxL, e_mIx, e_ixST, e_ixSL, e_mtL, e_w, e_w1, e_w2, e_wE, e_wZ, e_itK, e_itT, e_itL, e_itT2, e_itL2, e_lc, e_for, e_wipe0, e_wipe, e_okI, e_okR, e_gSb, List.getElem?_cons_zero, List.getElem?_cons_succ, List.set_cons_zero, List.set_cons_succ]
  exact ⟨.inl ⟨sm.1, sm.2⟩, .inl q⟩
def g_room : DRs := fun ds st Q => ∃ (d : D) (rs : List (Int × Int)), ds = [d] ∧ Runs rs d ∧ rs.length ≤ 1000 ∧ (∀ p ∈ rs, Small p.1) ∧ (rs.map fun p => p.1 * p.2).sum ≤ (rs.map fun p => p.1).sum ∧ Q .non st
theorem ar_room (ds : List D) (st : DSt) (Q : DK) (h : g_room ds st Q) : ds.length = 1 := by
  obtain ⟨_, _, rfl, _⟩ := h
  rfl
theorem sem_room (ds : List D) (st : DSt) (Q : DK) (h : g_room ds st Q) : F_require_room { nx := fun _ st' => Rt st Q .non st', rt := Rt st Q } (startD 4 ds) st := by
  obtain ⟨d, rs, rfl, hd, few, sm, room, q⟩ := h
  have st4 : startD 4 [d] = [some d, none, none, none] := rfl
  have big : (1000 : Nat) ≤ sizeLine := by decide
  simp only [F_require_room, st4, e_var, e_C, e_op, e_neg, e_isN, e_notN, e_and, e_or, e_not, e_test, e_tAnd, e_tOr, e_tNot, e_tYes, e_if, e_aNil, e_aCons, e_tup, e_lst, e_lstN, e_len0, e_len1, e_len2, e_len3, e_len4, e_len5, e_cb, e_on1, e_on2, e_onI, e_onB, e_onO, e_onO0, e_onOO, e_I0, e_I, e_add, e_addT, e_addS, e_addL, e_addLR, e_addRL, e_addRR, e_mul, e_mulL, e_mulT, e_rev, e_revT, e_ix, e_eqI, e_eqS, e_eqB, e_neI, e_neS, e_neB, e_ltI, e_chain, e_len, e_abs, e_2I, e_tuple1, e_tuple2, e_tuple3, e_listT, e_listN, e_allR, e_seqT, e_seqK, e_seqL, e_isi, e_isB, e_notB, e_truth, e_next, e_drop, e_ret, e_retN, e_ifS, e_set, e_asg, e_par, e_nm, e_gsN, e_gsC, e_gTpK, e_gTpL, e_sum, e_maxL, e_minL, e_maxDef, e_int, e_intB, e_aug, e_on3, e_par3, e_newK, e_getK, e_keyI, e_keyS, e_inK, e_ninK, e_putK, e_lenK, e_lstS, e_seqX, e_gTpT, e_oN, e_oS, e_sl, e_slT, e_slL, e_finT, e_finN, e_index, e_idxT, e_idxL, e_mIx, e_ixST, e_ixSL, e_mtL, e_w, e_w1, e_w2, e_wE, e_wZ, e_itK, e_itT, e_itL, e_itT2, e_itL2, e_lc, e_for, e_wipe0, e_wipe, e_okI, e_okR, e_gSb, List.getElem?_cons_zero, List.getElem?_cons_succ, List.set_cons_zero, List.set_cons_succ]
  rw [e_seq]
  simp only [e_var, e_C, e_op, e_neg, e_isN, e_notN, e_and, e_or, e_not, e_test, e_tAnd, e_tOr, e_tNot, e_tYes, e_if, e_aNil, e_aCons, e_tup, e_lst, e_lstN, e_len0, e_len1, e_len2, e_len3, e_len4, e_len5, e_cb, e_on1, e_on2, e_onI, e_onB, e_onO, e_onO0, e_onOO, e_I0, e_I, e_add, e_addT, e_addS, e_addL, e_addLR, e_addRL, e_addRR, e_mul, e_mulL, e_mulT, e_rev, e_revT, e_ix, e_eqI, e_eqS, e_eqB, e_neI, e_neS, e_neB, e_ltI, e_chain, e_len, e_abs, e_2I, e_tuple1, e_tuple2, e_tuple3, e_listT, e_listN, e_allR, e_seqT, e_seqK, e_seqL, e_isi, e_isB, e_notB, e_truth, e_next, e_drop, e_ret, e_retN, e_ifS, e_set, e_asg, e_par, e_nm, e_gsN, e_gsC, e_gTpK, e_gTpL, e_sum, e_maxL, e_minL, e_maxDef, e_int, e_intB, e_aug, e_on3, e_par3, e_newK, e_getK, e_keyI, e_keyS, e_inK, e_ninK, e_putK, e_lenK, e_lstS, e_seqX, e_gTpT, e_oN, e_oS, e_sl, e_slT, e_slL, e_finT, e_finN, e_index, e_idxT, e_idxL, e_mIx, e_ixST, e_ixSL, e_mtL, e_w, e_w1, e_w2, e_wE, e_wZ, e_itK, e_itT, e_itL, e_itT2, e_itL2, e_lc, e_for, e_wipe0, e_wipe, e_okI, e_okR, e_gSb, List.getElem?_cons_zero, List.getElem?_cons_succ, List.set_cons_zero, List.set_cons_succ, hd.it, List.length_map]
  refine ⟨by omega, lc_pair pairD (fun p => .int (p.1 * p.2)) rs (fun p hp Q' k => ?_) ?_⟩
  · unfold pairD
    simp only [e_var, e_C, e_op, e_neg, e_isN, e_notN, e_and, e_or, e_not, e_test, e_tAnd, e_tOr, e_tNot, e_tYes, e_if, e_aNil, e_aCons, e_tup, e_lst, e_lstN, e_len0, e_len1, e_len2, e_len3, e_len4, e_len5, e_cb, e_on1, e_on2, e_onI, e_onB, e_onO, e_onO0, e_onOO, e_I0, e_I, e_add, e_addT, e_addS, e_addL, e_addLR, e_addRL, e_addRR, e_mul, e_mulL, e_mulT, e_rev, e_revT, e_ix, e_eqI, e_eqS, e_eqB, e_neI, e_neS, e_neB, e_ltI, e_chain, e_len, e_abs, e_2I, e_tuple1, e_tuple2, e_tuple3, e_listT, e_listN, e_allR, e_seqT, e_seqK, e_seqL, e_isi, e_isB, e_notB, e_truth, e_next, e_drop, e_ret, e_retN, e_ifS, e_set, e_asg, e_par, e_nm, e_gsN, e_gsC, e_gTpK, e_gTpL, e_sum, e_maxL, e_minL, e_maxDef, e_int, e_intB, e_aug, e_on3, e_par3, e_newK, e_getK, e_keyI, e_keyS, e_inK, e_ninK, e_putK, e_lenK, e_lstS, e_seqX, e_gTpT, e_oN, e_oS, e_sl, e_slT, e_slL, e_finT, e_finN, e_index, e_idxT, e_idxL, e_mIx, e_ixST, e_ixSL, e_mtL, e_w, e_w1, e_w2, e_wE, e_wZ, e_itK, e_itT, e_itL, e_itT2, e_itL2, e_lc, e_for, e_wipe0, e_wipe, e_okI, e_okR, e_gSb, List.getElem?_cons_zero, List.getElem?_cons_succ, List.set_cons_zero, List.set_cons_succ]
    refine ⟨rfl, k _ fun Q2 q2 => ?_⟩
    simp only [e_var, e_C, e_op, e_neg, e_isN, e_notN, e_and, e_or, e_not, e_test, e_tAnd, e_tOr, e_tNot, e_tYes, e_if, e_aNil, e_aCons, e_tup, e_lst, e_lstN, e_len0, e_len1, e_len2, e_len3, e_len4, e_len5, e_cb, e_on1, e_on2, e_onI, e_onB, e_onO, e_onO0, e_onOO, e_I0, e_I, e_add, e_addT, e_addS, e_addL, e_addLR, e_addRL, e_addRR, e_mul, e_mulL, e_mulT, e_rev, e_revT, e_ix, e_eqI, e_eqS, e_eqB, e_neI, e_neS, e_neB, e_ltI, e_chain, e_len, e_abs, e_2I, e_tuple1, e_tuple2, e_tuple3, e_listT, e_listN, e_allR, e_seqT, e_seqK, e_seqL, e_isi, e_isB, e_notB, e_truth, e_next, e_drop, e_ret, e_retN, e_ifS, e_set, e_asg, e_par, e_nm, e_gsN, e_gsC, e_gTpK, e_gTpL, e_sum, e_maxL, e_minL, e_maxDef, e_int, e_intB, e_aug, e_on3, e_par3, e_newK, e_getK, e_keyI, e_keyS, e_inK, e_ninK, e_putK, e_lenK, e_lstS, e_seqX, e_gTpT, e_oN, e_oS, e_sl, e_slT, e_slL, e_finT, e_finN, e_index, e_idxT, e_idxL, e_mIx, e_ixST, e_ixSL, e_mtL, e_w, e_w1, e_w2, e_wE, e_wZ, e_itK, e_itT, e_itL, e_itT2, e_itL2, e_lc, e_for, e_wipe0, e_wipe, e_okI, e_okR, e_gSb, List.getElem?_cons_zero, List.getElem?_cons_succ, List.set_cons_zero, List.set_cons_succ]
    exact ⟨.inl (sm p hp), q2⟩
  · simp only [e_var, e_C, e_op, e_neg, e_isN, e_notN, e_and, e_or, e_not, e_test, e_tAnd, e_tOr, e_tNot, e_tYes, e_if, e_aNil, e_aCons, e_tup, e_lst, e_lstN, e_len0, e_len1, e_len2, e_len3, e_len4, e_len5, e_cb, e_on1, e_on2, e_onI, e_onB, e_onO, e_onO0, e_onOO, e_I0, e_I, e_add, e_addT, e_addS, e_addL, e_addLR, e_addRL, e_addRR, e_mul, e_mulL, e_mulT, e_rev, e_revT, e_ix, e_eqI, e_eqS, e_eqB, e_neI, e_neS, e_neB, e_ltI, e_chain, e_len, e_abs, e_2I, e_tuple1, e_tuple2, e_tuple3, e_listT, e_listN, e_allR, e_seqT, e_seqK, e_seqL, e_isi, e_isB, e_notB, e_truth, e_next, e_drop, e_ret, e_retN, e_ifS, e_set, e_asg, e_par, e_nm, e_gsN, e_gsC, e_gTpK, e_gTpL, e_sum, e_maxL, e_minL, e_maxDef, e_int, e_intB, e_aug, e_on3, e_par3, e_newK, e_getK, e_keyI, e_keyS, e_inK, e_ninK, e_putK, e_lenK, e_lstS, e_seqX, e_gTpT, e_oN, e_oS, e_sl, e_slT, e_slL, e_finT, e_finN, e_index, e_idxT, e_idxL, e_mIx, e_ixST, e_ixSL, e_mtL, e_w, e_w1, e_w2, e_wE, e_wZ, e_itK, e_itT, e_itL, e_itT2, e_itL2, e_lc, e_for, e_wipe0, e_wipe, e_okI, e_okR, e_gSb, List.getElem?_cons_zero, List.getElem?_cons_succ, List.set_cons_zero, List.set_cons_succ, intsD_map]
    refine ⟨by omega, lc_pair pairD (fun p => .int p.1) rs (fun p hp Q' k => ?_) ?_⟩
    · unfold pairD
      simp only [e_var, e_C, e_op, e_neg, e_isN, e_notN, e_and, e_or, e_not, e_test, e_tAnd, e_tOr, e_tNot, e_tYes, e_if, e_aNil, e_aCons, e_tup, e_lst, e_lstN, e_len0, e_len1, e_len2, e_len3, e_len4, e_len5, e_cb, e_on1, e_on2, e_onI, e_onB, e_onO, e_onO0, e_onOO, e_I0, e_I, e_add, e_addT, e_addS, e_addL, e_addLR, e_addRL, e_addRR, e_mul, e_mulL, e_mulT, e_rev, e_revT, e_ix, e_eqI, e_eqS, e_eqB, e_neI, e_neS, e_neB, e_ltI, e_chain, e_len, e_abs, e_2I, e_tuple1, e_tuple2, e_tuple3, e_listT, e_listN, e_allR, e_seqT, e_seqK, e_seqL, e_isi, e_isB, e_notB, e_truth, e_next, e_drop, e_ret, e_retN, e_ifS, e_set, e_asg, e_par, e_nm, e_gsN, e_gsC, e_gTpK, e_gTpL, e_sum, e_maxL, e_minL, e_maxDef, e_int, e_intB, e_aug, e_on3, e_par3, e_newK, e_getK, e_keyI, e_keyS, e_inK, e_ninK, e_putK, e_lenK, e_lstS, e_seqX, e_gTpT, e_oN, e_oS, e_sl, e_slT, e_slL, e_finT, e_finN, e_index, e_idxT, e_idxL, e_mIx, e_ixST, e_ixSL, e_mtL, e_w, e_w1, e_w2, e_wE, e_wZ, e_itK, e_itT, e_itL, e_itT2, e_itL2, e_lc, e_for, e_wipe0, e_wipe, e_okI, e_okR, e_gSb, List.getElem?_cons_zero, List.getElem?_cons_succ, List.set_cons_zero, List.set_cons_succ]
      exact ⟨rfl, k _ fun Q2 q2 => q2⟩
    · simp only [e_var, e_C, e_op, e_neg, e_isN, e_notN, e_and, e_or, e_not, e_test, e_tAnd, e_tOr, e_tNot, e_tYes, e_if, e_aNil, e_aCons, e_tup, e_lst, e_lstN, e_len0, e_len1, e_len2, e_len3, e_len4, e_len5, e_cb, e_on1, e_on2, e_onI, e_onB, e_onO, e_onO0, e_onOO, e_I0, e_I, e_add, e_addT, e_addS, e_addL, e_addLR, e_addRL, e_addRR, e_mul, e_mulL, e_mulT, e_rev, e_revT, e_ix, e_eqI, e_eqS, e_eqB, e_neI, e_neS, e_neB, e_ltI, e_chain, e_len, e_abs, e_2I, e_tuple1, e_tuple2, e_tuple3, e_listT, e_listN, e_allR, e_seqT, e_seqK, e_seqL, e_isi, e_isB, e_notB, e_truth, e_next, e_drop, e_ret, e_retN, e_ifS, e_set, e_asg, e_par, e_nm, e_gsN, e_gsC, e_gTpK, e_gTpL, e_sum, e_maxL, e_minL, e_maxDef, e_int, e_intB, e_aug, e_on3, e_par3, e_newK, e_getK, e_keyI, e_keyS, e_inK, e_ninK, e_putK, e_lenK, e_lstS, e_seqX, e_gTpT, e_oN, e_oS, e_sl, e_slT, e_slL, e_finT, e_finN, e_index, e_idxT, e_idxL, e_mIx, e_ixST, e_ixSL, e_mtL, e_w, e_w1, e_w2, e_wE, e_wZ, e_itK, e_itT, e_itL, e_itT2, e_itL2, e_lc, e_for, e_wipe0, e_wipe, e_okI, e_okR, e_gSb, List.getElem?_cons_zero, List.getElem?_cons_succ, List.set_cons_zero, List.set_cons_succ, intsD_map]
      have room' : (rs.map fun p => p.1 * p.2).sum ≤ (rs.map Prod.fst).sum := room
      exact iteF' (decide_eq_false (by omega)) (.inl q)
def g_flowsB : DRs := fun ds st Q => ∃ (d : D) (rs : List (Int × Int)), ds = [d] ∧ Runs rs d ∧ rs.length ≤ 1000 ∧ (∀ p ∈ rs, Small p.1) ∧ (rs.map fun p => p.1 * p.2).sum ≤ (rs.map fun p => p.1).sum ∧ Q (rowD (ML.flowsR rs)) st
theorem ar_flowsB (ds : List D) (st : DSt) (Q : DK) (h : g_flowsB ds st Q) : ds.length = 1 := by
  obtain ⟨_, _, rfl, _⟩ := h
  rfl
theorem sem_flowsB (ds : List D) (st : DSt) (Q : DK) (h : g_flowsB ds st Q) : F_flows_behind g_room g_flowB { nx := fun _ st' => Rt st Q .non st', rt := Rt st Q } (startD 5 ds) st := by
  obtain ⟨d, rs, rfl, hd, few, sm, room, q⟩ := h
  have st5 : startD 5 [d] = [some d, none, none, none, none] := rfl
  have big : (1000 : Nat) ≤ sizeLine := by decide
  simp only [F_flows_behind, st5]
  rw [e_seq]
  simp only [e_var, e_C, e_op, e_neg, e_isN, e_notN, e_and, e_or, e_not, e_test, e_tAnd, e_tOr, e_tNot, e_tYes, e_if, e_aNil, e_aCons, e_tup, e_lst, e_lstN, e_len0, e_len1, e_len2, e_len3, e_len4, e_len5, e_cb, e_on1, e_on2, e_onI, e_onB, e_onO, e_onO0, e_onOO, e_I0, e_I, e_add, e_addT, e_addS, e_addL, e_addLR, e_addRL, e_addRR, e_mul, e_mulL, e_mulT, e_rev, e_revT, e_ix, e_eqI, e_eqS, e_eqB, e_neI, e_neS, e_neB, e_ltI, e_chain, e_len, e_abs, e_2I, e_tuple1, e_tuple2, e_tuple3, e_listT, e_listN, e_allR, e_seqT, e_seqK, e_seqL, e_isi, e_isB, e_notB, e_truth, e_next, e_drop, e_ret, e_retN, e_ifS, e_set, e_asg, e_par, e_nm, e_gsN, e_gsC, e_gTpK, e_gTpL, e_sum, e_maxL, e_minL, e_maxDef, e_int, e_intB, e_aug, e_on3, e_par3, e_newK, e_getK, e_keyI, e_keyS, e_inK, e_ninK, e_putK, e_lenK, e_lstS, e_seqX, e_gTpT, e_oN, e_oS, e_sl, e_slT, e_slL, e_finT, e_finN, e_index, e_idxT, e_idxL, e_mIx, e_ixST, e_ixSL, e_mtL, e_w, e_w1, e_w2, e_wE, e_wZ, e_itK, e_itT, e_itL, e_itT2, e_itL2, e_lc, e_for, e_wipe0, e_wipe, e_okI, e_okR, e_gSb, List.getElem?_cons_zero, List.getElem?_cons_succ, List.set_cons_zero, List.set_cons_succ]
  refine ⟨d, rs, rfl, hd, few, sm, room, ?_⟩
  show sSeq _ _ _ _ _
  rw [e_seq]
  simp only [e_var, e_C, e_op, e_neg, e_isN, e_notN, e_and, e_or, e_not, e_test, e_tAnd, e_tOr, e_tNot, e_tYes, e_if, e_aNil, e_aCons, e_tup, e_lst, e_lstN, e_len0, e_len1, e_len2, e_len3, e_len4, e_len5, e_cb, e_on1, e_on2, e_onI, e_onB, e_onO, e_onO0, e_onOO, e_I0, e_I, e_add, e_addT, e_addS, e_addL, e_addLR, e_addRL, e_addRR, e_mul, e_mulL, e_mulT, e_rev, e_revT, e_ix, e_eqI, e_eqS, e_eqB, e_neI, e_neS, e_neB, e_ltI, e_chain, e_len, e_abs, e_2I, e_tuple1, e_tuple2, e_tuple3, e_listT, e_listN, e_allR, e_seqT, e_seqK, e_seqL, e_isi, e_isB, e_notB, e_truth, e_next, e_drop, e_ret, e_retN, e_ifS, e_set, e_asg, e_par, e_nm, e_gsN, e_gsC, e_gTpK, e_gTpL, e_sum, e_maxL, e_minL, e_maxDef, e_int, e_intB, e_aug, e_on3, e_par3, e_newK, e_getK, e_keyI, e_keyS, e_inK, e_ninK, e_putK, e_lenK, e_lstS, e_seqX, e_gTpT, e_oN, e_oS, e_sl, e_slT, e_slL, e_finT, e_finN, e_index, e_idxT, e_idxL, e_mIx, e_ixST, e_ixSL, e_mtL, e_w, e_w1, e_w2, e_wE, e_wZ, e_itK, e_itT, e_itL, e_itT2, e_itL2, e_lc, e_for, e_wipe0, e_wipe, e_okI, e_okR, e_gSb, List.getElem?_cons_zero, List.getElem?_cons_succ, List.set_cons_zero, List.set_cons_succ]
  rw [e_seq]
  simp only [e_var, e_C, e_op, e_neg, e_isN, e_notN, e_and, e_or, e_not, e_test, e_tAnd, e_tOr, e_tNot, e_tYes, e_if, e_aNil, e_aCons, e_tup, e_lst, e_lstN, e_len0, e_len1, e_len2, e_len3, e_len4, e_len5, e_cb, e_on1, e_on2, e_onI, e_onB, e_onO, e_onO0, e_onOO, e_I0, e_I, e_add, e_addT, e_addS, e_addL, e_addLR, e_addRL, e_addRR, e_mul, e_mulL, e_mulT, e_rev, e_revT, e_ix, e_eqI, e_eqS, e_eqB, e_neI, e_neS, e_neB, e_ltI, e_chain, e_len, e_abs, e_2I, e_tuple1, e_tuple2, e_tuple3, e_listT, e_listN, e_allR, e_seqT, e_seqK, e_seqL, e_isi, e_isB, e_notB, e_truth, e_next, e_drop, e_ret, e_retN, e_ifS, e_set, e_asg, e_par, e_nm, e_gsN, e_gsC, e_gTpK, e_gTpL, e_sum, e_maxL, e_minL, e_maxDef, e_int, e_intB, e_aug, e_on3, e_par3, e_newK, e_getK, e_keyI, e_keyS, e_inK, e_ninK, e_putK, e_lenK, e_lstS, e_seqX, e_gTpT, e_oN, e_oS, e_sl, e_slT, e_slL, e_finT, e_finN, e_index, e_idxT, e_idxL, e_mIx, e_ixST, e_ixSL, e_mtL, e_w, e_w1, e_w2, e_wE, e_wZ, e_itK, e_itT, e_itL, e_itT2, e_itL2, e_lc, e_for, e_wipe0, e_wipe, e_okI, e_okR, e_gSb, List.getElem?_cons_zero, List.getElem?_cons_succ, List.set_cons_zero, List.set_cons_succ, hd.it]
  refine for_list pairD (fun left r st' => ∃ (done : List (Int × Int)) (x2 x3 : Option D), done ++ left = rs ∧ r = [some d, some (.int (ML.runR 0 done)), x2, x3, none] ∧ st = st') ?_ ?_ rs _ _ ⟨[], _, _, rfl, rfl, rfl⟩
  · rintro p left r st' N hN ⟨done, x2, x3, e, rfl, rfl⟩
    unfold pairD
    simp only [e_var, e_C, e_op, e_neg, e_isN, e_notN, e_and, e_or, e_not, e_test, e_tAnd, e_tOr, e_tNot, e_tYes, e_if, e_aNil, e_aCons, e_tup, e_lst, e_lstN, e_len0, e_len1, e_len2, e_len3, e_len4, e_len5, e_cb, e_on1, e_on2, e_onI, e_onB, e_onO, e_onO0, e_onOO, e_I0, e_I, e_add, e_addT, e_addS, e_addL, e_addLR, e_addRL, e_addRR, e_mul, e_mulL, e_mulT, e_rev, e_revT, e_ix, e_eqI, e_eqS, e_eqB, e_neI, e_neS, e_neB, e_ltI, e_chain, e_len, e_abs, e_2I, e_tuple1, e_tuple2, e_tuple3, e_listT, e_listN, e_allR, e_seqT, e_seqK, e_seqL, e_isi, e_isB, e_notB, e_truth, e_next, e_drop, e_ret, e_retN, e_ifS, e_set, e_asg, e_par, e_nm, e_gsN, e_gsC, e_gTpK, e_gTpL, e_sum, e_maxL, e_minL, e_maxDef, e_int, e_intB, e_aug, e_on3, e_par3, e_newK, e_getK, e_keyI, e_keyS, e_inK, e_ninK, e_putK, e_lenK, e_lstS, e_seqX, e_gTpT, e_oN, e_oS, e_sl, e_slT, e_slL, e_finT, e_finN, e_index, e_idxT, e_idxL, e_mIx, e_ixST, e_ixSL, e_mtL, e_w, e_w1, e_w2, e_wE, e_wZ, e_itK, e_itT, e_itL, e_itT2, e_itL2, e_lc, e_for, e_wipe0, e_wipe, e_okI, e_okR, e_gSb, List.getElem?_cons_zero, List.getElem?_cons_succ, List.set_cons_zero, List.set_cons_succ]
    refine ⟨rfl, _, p, rfl, sm p (by rw [← e]; simp), hN _ _ (.inl ⟨done ++ [p], some (.int p.1), some (.int p.2), by rw [List.append_assoc]; exact e, by rw [ML.runR_app], rfl⟩)⟩
  rintro r st' ⟨done, x2, x3, e, rfl, rfl⟩
  rw [List.append_nil] at e
  subst e
  simp only [e_var, e_C, e_op, e_neg, e_isN, e_notN, e_and, e_or, e_not, e_test, e_tAnd, e_tOr, e_tNot, e_tYes, e_if, e_aNil, e_aCons, e_tup, e_lst, e_lstN, e_len0, e_len1, e_len2, e_len3, e_len4, e_len5, e_cb, e_on1, e_on2, e_onI, e_onB, e_onO, e_onO0, e_onOO, e_I0, e_I, e_add, e_addT, e_addS, e_addL, e_addLR, e_addRL, e_addRR, e_mul, e_mulL, e_mulT, e_rev, e_revT, e_ix, e_eqI, e_eqS, e_eqB, e_neI, e_neS, e_neB, e_ltI, e_chain, e_len, e_abs, e_2I, e_tuple1, e_tuple2, e_tuple3, e_listT, e_listN, e_allR, e_seqT, e_seqK, e_seqL, e_isi, e_isB, e_notB, e_truth, e_next, e_drop, e_ret, e_retN, e_ifS, e_set, e_asg, e_par, e_nm, e_gsN, e_gsC, e_gTpK, e_gTpL, e_sum, e_maxL, e_minL, e_maxDef, e_int, e_intB, e_aug, e_on3, e_par3, e_newK, e_getK, e_keyI, e_keyS, e_inK, e_ninK, e_putK, e_lenK, e_lstS, e_seqX, e_gTpT, e_oN, e_oS, e_sl, e_slT, e_slL, e_finT, e_finN, e_index, e_idxT, e_idxL, e_mIx, e_ixST, e_ixSL, e_mtL, e_w, e_w1, e_w2, e_wE, e_wZ, e_itK, e_itT, e_itL, e_itT2, e_itL2, e_lc, e_for, e_wipe0, e_wipe, e_okI, e_okR, e_gSb, List.getElem?_cons_zero, List.getElem?_cons_succ, List.set_cons_zero, List.set_cons_succ]
  rw [e_seq]
  simp only [e_var, e_C, e_op, e_neg, e_isN, e_notN, e_and, e_or, e_not, e_test, e_tAnd, e_tOr, e_tNot, e_tYes, e_if, e_aNil, e_aCons, e_tup, e_lst, e_lstN, e_len0, e_len1, e_len2, e_len3, e_len4, e_len5, e_cb, e_on1, e_on2, e_onI, e_onB, e_onO, e_onO0, e_onOO, e_I0, e_I, e_add, e_addT, e_addS, e_addL, e_addLR, e_addRL, e_addRR, e_mul, e_mulL, e_mulT, e_rev, e_revT, e_ix, e_eqI, e_eqS, e_eqB, e_neI, e_neS, e_neB, e_ltI, e_chain, e_len, e_abs, e_2I, e_tuple1, e_tuple2, e_tuple3, e_listT, e_listN, e_allR, e_seqT, e_seqK, e_seqL, e_isi, e_isB, e_notB, e_truth, e_next, e_drop, e_ret, e_retN, e_ifS, e_set, e_asg, e_par, e_nm, e_gsN, e_gsC, e_gTpK, e_gTpL, e_sum, e_maxL, e_minL, e_maxDef, e_int, e_intB, e_aug, e_on3, e_par3, e_newK, e_getK, e_keyI, e_keyS, e_inK, e_ninK, e_putK, e_lenK, e_lstS, e_seqX, e_gTpT, e_oN, e_oS, e_sl, e_slT, e_slL, e_finT, e_finN, e_index, e_idxT, e_idxL, e_mIx, e_ixST, e_ixSL, e_mtL, e_w, e_w1, e_w2, e_wE, e_wZ, e_itK, e_itT, e_itL, e_itT2, e_itL2, e_lc, e_for, e_wipe0, e_wipe, e_okI, e_okR, e_gSb, List.getElem?_cons_zero, List.getElem?_cons_succ, List.set_cons_zero, List.set_cons_succ]
  rw [e_seq]
  simp only [e_var, e_C, e_op, e_neg, e_isN, e_notN, e_and, e_or, e_not, e_test, e_tAnd, e_tOr, e_tNot, e_tYes, e_if, e_aNil, e_aCons, e_tup, e_lst, e_lstN, e_len0, e_len1, e_len2, e_len3, e_len4, e_len5, e_cb, e_on1, e_on2, e_onI, e_onB, e_onO, e_onO0, e_onOO, e_I0, e_I, e_add, e_addT, e_addS, e_addL, e_addLR, e_addRL, e_addRR, e_mul, e_mulL, e_mulT, e_rev, e_revT, e_ix, e_eqI, e_eqS, e_eqB, e_neI, e_neS, e_neB, e_ltI, e_chain, e_len, e_abs, e_2I, e_tuple1, e_tuple2, e_tuple3, e_listT, e_listN, e_allR, e_seqT, e_seqK, e_seqL, e_isi, e_isB, e_notB, e_truth, e_next, e_drop, e_ret, e_retN, e_ifS, e_set, e_asg, e_par, e_nm, e_gsN, e_gsC, e_gTpK, e_gTpL, e_sum, e_maxL, e_minL, e_maxDef, e_int, e_intB, e_aug, e_on3, e_par3, e_newK, e_getK, e_keyI, e_keyS, e_inK, e_ninK, e_putK, e_lenK, e_lstS, e_seqX, e_gTpT, e_oN, e_oS, e_sl, e_slT, e_slL, e_finT, e_finN, e_index, e_idxT, e_idxL, e_mIx, e_ixST, e_ixSL, e_mtL, e_w, e_w1, e_w2, e_wE, e_wZ, e_itK, e_itT, e_itL, e_itT2, e_itL2, e_lc, e_for, e_wipe0, e_wipe, e_okI, e_okR, e_gSb, List.getElem?_cons_zero, List.getElem?_cons_succ, List.set_cons_zero, List.set_cons_succ, hd.it]
  refine for_list pairD (fun left r st' => ∃ (dn : List (Int × Int)) (x2 x3 : Option D), dn ++ left = done ∧ r = [some d, some (.int (ML.runR (ML.runR 0 done) dn)), x2, x3, some (.ref st.length)] ∧ st' = st ++ [.lst ((ML.scanR (ML.runR 0 done) dn).map D.int)]) ?_ ?_ done _ _ ⟨[], _, _, rfl, rfl, rfl⟩
  · rintro p left r st' N hN ⟨dn, x2, x3, e, rfl, rfl⟩
    unfold pairD
    have lt : dn.length < 1000 := by
      have := congrArg List.length e
      rw [List.length_append, List.length_cons] at this
      omega
    have ea : (st ++ [O.lst ((ML.scanR (ML.runR 0 done) dn).map D.int)])[st.length]? = some (.lst ((ML.scanR (ML.runR 0 done) dn).map D.int)) := by simp
    simp only [e_var, e_C, e_op, e_neg, e_isN, e_notN, e_and, e_or, e_not, e_test, e_tAnd, e_tOr, e_tNot, e_tYes, e_if, e_aNil, e_aCons, e_tup, e_lst, e_lstN, e_len0, e_len1, e_len2, e_len3, e_len4, e_len5, e_cb, e_on1, e_on2, e_onI, e_onB, e_onO, e_onO0, e_onOO, e_I0, e_I, e_add, e_addT, e_addS, e_addL, e_addLR, e_addRL, e_addRR, e_mul, e_mulL, e_mulT, e_rev, e_revT, e_ix, e_eqI, e_eqS, e_eqB, e_neI, e_neS, e_neB, e_ltI, e_chain, e_len, e_abs, e_2I, e_tuple1, e_tuple2, e_tuple3, e_listT, e_listN, e_allR, e_seqT, e_seqK, e_seqL, e_isi, e_isB, e_notB, e_truth, e_next, e_drop, e_ret, e_retN, e_ifS, e_set, e_asg, e_par, e_nm, e_gsN, e_gsC, e_gTpK, e_gTpL, e_sum, e_maxL, e_minL, e_maxDef, e_int, e_intB, e_aug, e_on3, e_par3, e_newK, e_getK, e_keyI, e_keyS, e_inK, e_ninK, e_putK, e_lenK, e_lstS, e_seqX, e_gTpT, e_oN, e_oS, e_sl, e_slT, e_slL, e_finT, e_finN, e_index, e_idxT, e_idxL, e_mIx, e_ixST, e_ixSL, e_mtL, e_w, e_w1, e_w2, e_wE, e_wZ, e_itK, e_itT, e_itL, e_itT2, e_itL2, e_lc, e_for, e_wipe0, e_wipe, e_okI, e_okR, e_gSb, List.getElem?_cons_zero, List.getElem?_cons_succ, List.set_cons_zero, List.set_cons_succ]
    refine ⟨rfl, ?_⟩
    rw [e_seq]
    simp only [e_var, e_C, e_op, e_neg, e_isN, e_notN, e_and, e_or, e_not, e_test, e_tAnd, e_tOr, e_tNot, e_tYes, e_if, e_aNil, e_aCons, e_tup, e_lst, e_lstN, e_len0, e_len1, e_len2, e_len3, e_len4, e_len5, e_cb, e_on1, e_on2, e_onI, e_onB, e_onO, e_onO0, e_onOO, e_I0, e_I, e_add, e_addT, e_addS, e_addL, e_addLR, e_addRL, e_addRR, e_mul, e_mulL, e_mulT, e_rev, e_revT, e_ix, e_eqI, e_eqS, e_eqB, e_neI, e_neS, e_neB, e_ltI, e_chain, e_len, e_abs, e_2I, e_tuple1, e_tuple2, e_tuple3, e_listT, e_listN, e_allR, e_seqT, e_seqK, e_seqL, e_isi, e_isB, e_notB, e_truth, e_next, e_drop, e_ret, e_retN, e_ifS, e_set, e_asg, e_par, e_nm, e_gsN, e_gsC, e_gTpK, e_gTpL, e_sum, e_maxL, e_minL, e_maxDef, e_int, e_intB, e_aug, e_on3, e_par3, e_newK, e_getK, e_keyI, e_keyS, e_inK, e_ninK, e_putK, e_lenK, e_lstS, e_seqX, e_gTpT, e_oN, e_oS, e_sl, e_slT, e_slL, e_finT, e_finN, e_index, e_idxT, e_idxL, e_mIx, e_ixST, e_ixSL, e_mtL, e_w, e_w1, e_w2, e_wE, e_wZ, e_itK, e_itT, e_itL, e_itT2, e_itL2, e_lc, e_for, e_wipe0, e_wipe, e_okI, e_okR, e_gSb, List.getElem?_cons_zero, List.getElem?_cons_succ, List.set_cons_zero, List.set_cons_succ]
    refine ⟨_, p, rfl, sm p (by rw [← e]; simp), ?_⟩
    simp only [e_var, e_C, e_op, e_neg, e_isN, e_notN, e_and, e_or, e_not, e_test, e_tAnd, e_tOr, e_tNot, e_tYes, e_if, e_aNil, e_aCons, e_tup, e_lst, e_lstN, e_len0, e_len1, e_len2, e_len3, e_len4, e_len5, e_cb, e_on1, e_on2, e_onI, e_onB, e_onO, e_onO0, e_onOO, e_I0, e_I, e_add, e_addT, e_addS, e_addL, e_addLR, e_addRL, e_addRR, e_mul, e_mulL, e_mulT, e_rev, e_revT, e_ix, e_eqI, e_eqS, e_eqB, e_neI, e_neS, e_neB, e_ltI, e_chain, e_len, e_abs, e_2I, e_tuple1, e_tuple2, e_tuple3, e_listT, e_listN, e_allR, e_seqT, e_seqK, e_seqL, e_isi, e_isB, e_notB, e_truth, e_next, e_drop, e_ret, e_retN, e_ifS, e_set, e_asg, e_par, e_nm, e_gsN, e_gsC, e_gTpK, e_gTpL, e_sum, e_maxL, e_minL, e_maxDef, e_int, e_intB, e_aug, e_on3, e_par3, e_newK, e_getK, e_keyI, e_keyS, e_inK, e_ninK, e_putK, e_lenK, e_lstS, e_seqX, e_gTpT, e_oN, e_oS, e_sl, e_slT, e_slL, e_finT, e_finN, e_index, e_idxT, e_idxL, e_mIx, e_ixST, e_ixSL, e_mtL, e_w, e_w1, e_w2, e_wE, e_wZ, e_itK, e_itT, e_itL, e_itT2, e_itL2, e_lc, e_for, e_wipe0, e_wipe, e_okI, e_okR, e_gSb, List.getElem?_cons_zero, List.getElem?_cons_succ, List.set_cons_zero, List.set_cons_succ]
    refine ⟨by unfold LstD; simp only [ea], append_ref ea (by rw [List.length_map, ML.scanR_length]; omega) (hN _ _ (.inl ⟨dn ++ [p], some (.int p.1), some (.int p.2), by rw [List.append_assoc]; exact e, by rw [ML.runR_app], ?_⟩))⟩
    rw [ML.scanR_app, List.map_append]
    simp
  rintro r st' ⟨dn, x2, x3, e, rfl, rfl⟩
  rw [List.append_nil] at e
  subst e
  have ea : (st ++ [O.lst ((ML.scanR (ML.runR 0 dn) dn).map D.int)])[st.length]? = some (.lst ((ML.scanR (ML.runR 0 dn) dn).map D.int)) := by simp
  simp only [e_var, e_C, e_op, e_neg, e_isN, e_notN, e_and, e_or, e_not, e_test, e_tAnd, e_tOr, e_tNot, e_tYes, e_if, e_aNil, e_aCons, e_tup, e_lst, e_lstN, e_len0, e_len1, e_len2, e_len3, e_len4, e_len5, e_cb, e_on1, e_on2, e_onI, e_onB, e_onO, e_onO0, e_onOO, e_I0, e_I, e_add, e_addT, e_addS, e_addL, e_addLR, e_addRL, e_addRR, e_mul, e_mulL, e_mulT, e_rev, e_revT, e_ix, e_eqI, e_eqS, e_eqB, e_neI, e_neS, e_neB, e_ltI, e_chain, e_len, e_abs, e_2I, e_tuple1, e_tuple2, e_tuple3, e_listT, e_listN, e_allR, e_seqT, e_seqK, e_seqL, e_isi, e_isB, e_notB, e_truth, e_next, e_drop, e_ret, e_retN, e_ifS, e_set, e_asg, e_par, e_nm, e_gsN, e_gsC, e_gTpK, e_gTpL, e_sum, e_maxL, e_minL, e_maxDef, e_int, e_intB, e_aug, e_on3, e_par3, e_newK, e_getK, e_keyI, e_keyS, e_inK, e_ninK, e_putK, e_lenK, e_lstS, e_seqX, e_gTpT, e_oN, e_oS, e_sl, e_slT, e_slL, e_finT, e_finN, e_index, e_idxT, e_idxL, e_mIx, e_ixST, e_ixSL, e_mtL, e_w, e_w1, e_w2, e_wE, e_wZ, e_itK, e_itT, e_itL, e_itT2, e_itL2, e_lc, e_for, e_wipe0, e_wipe, e_okI, e_okR, e_gSb, List.getElem?_cons_zero, List.getElem?_cons_succ, List.set_cons_zero, List.set_cons_succ, seq_ref ea]
  exact rt_drop rfl (by simp only [DL.clo]; exact clos_ints _ _) (fun i o h => .inl h) q
end DL
namespace DL
open PySem PySem.Spec PyProof.Rows L2 LamX PySem.W SL
structure Cnt (c : List Int) : Prop where
  ne : c ≠ []
  few : c.length ≤ 900
  nn : ∀ x ∈ c, 0 ≤ x
  room : ML.sumL c ≤ c.length
theorem Cnt.pos {c : List Int} (h : Cnt c) : 0 < c.length := List.length_pos_iff.mpr h.ne
theorem Cnt.flow {c : List Int} (h : Cnt c) : ML.Flow c.length (ML.cy c) (ML.cy (ML.flowsI c)) := ML.flowsI_flow h.ne h.room
theorem sum_mem_le : ∀ {l : List Int}, (∀ x ∈ l, 0 ≤ x) → ∀ x ∈ l, x ≤ ML.sumL l
  | y :: r, h, x, hx => by
    have s0 : 0 ≤ ML.sumL r := by
      have : ∀ {l : List Int}, (∀ x ∈ l, 0 ≤ x) → 0 ≤ ML.sumL l := by
        intro l
        induction l with
        | nil => intro _; exact Int.le_refl 0
        | cons z l ih => intro h; rw [ML.sumL_cons]; have := ih fun x hx => h x (List.mem_cons_of_mem _ hx); have := h z List.mem_cons_self; omega
      exact this fun x hx => h x (List.mem_cons_of_mem _ hx)
    rw [ML.sumL_cons]
    rcases List.mem_cons.mp hx with z | z
    · omega
    · have := sum_mem_le (fun x hx => h x (List.mem_cons_of_mem _ hx)) x z
      have := h y List.mem_cons_self
      omega
theorem Cnt.le {c : List Int} (h : Cnt c) {x : Int} (hx : x ∈ c) : x ≤ c.length := Int.le_trans (sum_mem_le h.nn x hx) h.room
def g_flows : DRs := fun ds st Q => ∃ c : List Int, ds = [rowD c] ∧ Cnt c ∧ Q (rowD (ML.flowsI c)) st
theorem ar_flows (ds : List D) (st : DSt) (Q : DK) (h : g_flows ds st Q) : ds.length = 1 := by
  obtain ⟨_, rfl, _⟩ := h
  rfl
theorem sem_flows (ds : List D) (st : DSt) (Q : DK) (h : g_flows ds st Q) : F_flows g_flowsB { nx := fun _ st' => Rt st Q .non st', rt := Rt st Q } (startD 2 ds) st := by
  obtain ⟨c, rfl, hc, q⟩ := h
  have st2 : startD 2 [rowD c] = [some (.tup (c.map D.int)), none] := rfl
  have big : (1000 : Nat) ≤ sizeLine := by decide
  have few := hc.few
  simp only [F_flows, st2, e_var, e_C, e_op, e_neg, e_isN, e_notN, e_and, e_or, e_not, e_test, e_tAnd, e_tOr, e_tNot, e_tYes, e_if, e_aNil, e_aCons, e_tup, e_lst, e_lstN, e_len0, e_len1, e_len2, e_len3, e_len4, e_len5, e_cb, e_on1, e_on2, e_onI, e_onB, e_onO, e_onO0, e_onOO, e_I0, e_I, e_add, e_addT, e_addS, e_addL, e_addLR, e_addRL, e_addRR, e_mul, e_mulL, e_mulT, e_rev, e_revT, e_ix, e_eqI, e_eqS, e_eqB, e_neI, e_neS, e_neB, e_ltI, e_chain, e_len, e_abs, e_2I, e_tuple1, e_tuple2, e_tuple3, e_listT, e_listN, e_allR, e_seqT, e_seqK, e_seqL, e_isi, e_isB, e_notB, e_truth, e_next, e_seq, e_drop, e_ret, e_retN, e_ifS, e_set, e_asg, e_par, e_nm, e_gsN, e_gsC, e_gTpK, e_gTpL, e_sum, e_maxL, e_minL, e_maxDef, e_int, e_intB, e_aug, e_on3, e_par3, e_newK, e_getK, e_keyI, e_keyS, e_inK, e_ninK, e_putK, e_lenK, e_lstS, e_seqX, e_gTpT, e_oN, e_oS, e_sl, e_slT, e_slL, e_finT, e_finN, e_index, e_idxT, e_idxL, e_mIx, e_ixST, e_ixSL, e_mtL, e_w, e_w1, e_w2, e_wE, e_wZ, e_itK, e_itT, e_itL, e_itT2, e_itL2, e_lc, e_for, e_wipe0, e_wipe, e_okI, e_okR, e_gSb, List.getElem?_cons_zero, List.getElem?_cons_succ, List.set_cons_zero, List.set_cons_succ, List.length_map]
  refine ⟨by omega, lc_pair D.int (fun x => pairD (1, x)) c (fun x hx Q' k => ?_) ?_⟩
  · exact k _ fun Q2 q2 => by simp only [e_var, e_C, e_op, e_neg, e_isN, e_notN, e_and, e_or, e_not, e_test, e_tAnd, e_tOr, e_tNot, e_tYes, e_if, e_aNil, e_aCons, e_tup, e_lst, e_lstN, e_len0, e_len1, e_len2, e_len3, e_len4, e_len5, e_cb, e_on1, e_on2, e_onI, e_onB, e_onO, e_onO0, e_onOO, e_I0, e_I, e_add, e_addT, e_addS, e_addL, e_addLR, e_addRL, e_addRR, e_mul, e_mulL, e_mulT, e_rev, e_revT, e_ix, e_eqI, e_eqS, e_eqB, e_neI, e_neS, e_neB, e_ltI, e_chain, e_len, e_abs, e_2I, e_tuple1, e_tuple2, e_tuple3, e_listT, e_listN, e_allR, e_seqT, e_seqK, e_seqL, e_isi, e_isB, e_notB, e_truth, e_next, e_seq, e_drop, e_ret, e_retN, e_ifS, e_set, e_asg, e_par, e_nm, e_gsN, e_gsC, e_gTpK, e_gTpL, e_sum, e_maxL, e_minL, e_maxDef, e_int, e_intB, e_aug, e_on3, e_par3, e_newK, e_getK, e_keyI, e_keyS, e_inK, e_ninK, e_putK, e_lenK, e_lstS, e_seqX, e_gTpT, e_oN, e_oS, e_sl, e_slT, e_slL, e_finT, e_finN, e_index, e_idxT, e_idxL, e_mIx, e_ixST, e_ixSL, e_mtL, e_w, e_w1, e_w2, e_wE, e_wZ, e_itK, e_itT, e_itL, e_itT2, e_itL2, e_lc, e_for, e_wipe0, e_wipe, e_okI, e_okR, e_gSb, List.getElem?_cons_zero, List.getElem?_cons_succ, List.set_cons_zero, List.set_cons_succ]; exact q2
  · simp only [e_var, e_C, e_op, e_neg, e_isN, e_notN, e_and, e_or, e_not, e_test, e_tAnd, e_tOr, e_tNot, e_tYes, e_if, e_aNil, e_aCons, e_tup, e_lst, e_lstN, e_len0, e_len1, e_len2, e_len3, e_len4, e_len5, e_cb, e_on1, e_on2, e_onI, e_onB, e_onO, e_onO0, e_onOO, e_I0, e_I, e_add, e_addT, e_addS, e_addL, e_addLR, e_addRL, e_addRR, e_mul, e_mulL, e_mulT, e_rev, e_revT, e_ix, e_eqI, e_eqS, e_eqB, e_neI, e_neS, e_neB, e_ltI, e_chain, e_len, e_abs, e_2I, e_tuple1, e_tuple2, e_tuple3, e_listT, e_listN, e_allR, e_seqT, e_seqK, e_seqL, e_isi, e_isB, e_notB, e_truth, e_next, e_seq, e_drop, e_ret, e_retN, e_ifS, e_set, e_asg, e_par, e_nm, e_gsN, e_gsC, e_gTpK, e_gTpL, e_sum, e_maxL, e_minL, e_maxDef, e_int, e_intB, e_aug, e_on3, e_par3, e_newK, e_getK, e_keyI, e_keyS, e_inK, e_ninK, e_putK, e_lenK, e_lstS, e_seqX, e_gTpT, e_oN, e_oS, e_sl, e_slT, e_slL, e_finT, e_finN, e_index, e_idxT, e_idxL, e_mIx, e_ixST, e_ixSL, e_mtL, e_w, e_w1, e_w2, e_wE, e_wZ, e_itK, e_itT, e_itL, e_itT2, e_itL2, e_lc, e_for, e_wipe0, e_wipe, e_okI, e_okR, e_gSb, List.getElem?_cons_zero, List.getElem?_cons_succ, List.set_cons_zero, List.set_cons_succ]
    refine ⟨_, c.map fun x => (1, x), rfl, .inl (by rw [List.map_map]; rfl), by rw [List.length_map]; omega, fun p hp => ?_, ?_, ?_⟩
    · obtain ⟨x, _, rfl⟩ := List.mem_map.mp hp
      exact ⟨by show (-(2 ^ 64) : Int) < 1; decide, by show (1 : Int) < 2 ^ 64; decide⟩
    · rw [List.map_map, List.map_map]
      have e1 : (c.map ((fun p : Int × Int => p.1 * p.2) ∘ fun x => (1, x))) = c := by
        refine (List.map_congr_left fun x _ => ?_).trans (List.map_id c)
        show (1 : Int) * x = id x
        simp
      have e2 : (c.map ((fun p : Int × Int => p.1) ∘ fun x => (1, x))) = c.map fun _ => (1 : Int) := rfl
      rw [e1, e2, ML.sum_ones, ML.sum_sumL]
      exact hc.room
    · rw [ML.flowsR_one]
      exact .inl q
theorem prev_at {xs : List Int} {n s : Nat} (l : xs.length = n) (h : s < n) : atI (xs.map D.int) ((s : Int) - 1) = some (.int (ML.cy xs (s + (n - 1)))) := by
  subst l
  cases s with
  | zero =>
    have e : xs = xs.dropLast ++ [xs.getLast (List.length_pos_iff.mp h)] := (List.dropLast_concat_getLast _).symm
    have z : ML.cy xs (0 + (xs.length - 1)) = xs.getLast (List.length_pos_iff.mp h) := by
      rw [Nat.zero_add, ML.cy_lt (by omega), List.getD_eq_getElem?_getD, List.getElem?_eq_getElem (by omega), List.getLast_eq_getElem]
      rfl
    rw [z]
    conv => lhs; rw [e]
    rw [List.map_append]
    exact atI_last _ _
  | succ k =>
    have z : ML.cy xs (k + 1 + (xs.length - 1)) = xs.getD k 0 := by
      rw [show k + 1 + (xs.length - 1) = k + xs.length by omega, ML.cy_per, ML.cy_lt (by omega)]
    rw [z, show ((k + 1 : Nat) : Int) - 1 = (k : Int) by omega]
    refine atI_nat ?_
    rw [List.getElem?_map, List.getElem?_eq_getElem (by omega), List.getD_eq_getElem?_getD, List.getElem?_eq_getElem (by omega)]
    rfl
theorem row_at {xs : List Int} {s : Nat} (h : s < xs.length) : atI (xs.map D.int) (s : Int) = some (.int (xs.getD s 0)) := by
  refine atI_nat ?_
  rw [List.getElem?_map, List.getElem?_eq_getElem h, List.getD_eq_getElem?_getD, List.getElem?_eq_getElem h]
  rfl
def isTk (c : List Int) (s : Nat) : Bool := decide (0 < ML.cy (ML.flowsI c) (s + (c.length - 1)) + c.getD s 0)
def takenI (c : List Int) : List Int := ((List.range c.length).filter (isTk c)).map fun s : Nat => (s : Int)
def g_taken : DRs := fun ds st Q => ∃ c : List Int, ds = [rowD c] ∧ Cnt c ∧ Q (rowD (takenI c)) st
theorem ar_taken (ds : List D) (st : DSt) (Q : DK) (h : g_taken ds st Q) : ds.length = 1 := by
  obtain ⟨_, rfl, _⟩ := h
  rfl
theorem lc_rngIf {tt : DTT} {te : DTE} {r : DEnv} {Q : List D → DSt → Prop} {st : DSt} {xs : List D} {n i : Nat} (p : Nat → Bool) (h : Nat → D) (ht : ∀ k : Nat, k < n → EvT tt (r.set i (some (.int (k : Nat)))) st (p k)) (he : ∀ k : Nat, k < n → p k = true → Ev te (r.set i (some (.int (k : Nat)))) st (h k))
    (q : Q (((List.range n).filter p).map h) st) : compL ⟨xs, none⟩ (gNm i) tt te r Q (rgD 0 n) [] st := by
  refine lc_if (fun d => match d with | .int i => p i.toNat | _ => false) (fun d => match d with | .int i => h i.toNat | _ => .non) (fun d hd => ?_) (fun d hd hp => ?_) ?_
  · obtain ⟨k, lt, rfl⟩ := rgD_mem hd
    rw [Int.zero_add]
    exact ht k lt
  · obtain ⟨k, lt, rfl⟩ := rgD_mem hd
    rw [Int.zero_add] at hp ⊢
    exact he k lt hp
  · rw [rgD0, List.filter_map, List.map_map]
    exact q
theorem sem_taken (ds : List D) (st : DSt) (Q : DK) (h : g_taken ds st Q) : F_taken g_flows { nx := fun _ st' => Rt st Q .non st', rt := Rt st Q } (startD 3 ds) st := by
  obtain ⟨c, rfl, hc, q⟩ := h
  have st3 : startD 3 [rowD c] = [some (.tup (c.map D.int)), none, none] := rfl
  have big : (1000 : Nat) ≤ sizeLine := by decide
  have few := hc.few
  simp only [F_taken, st3]
  rw [e_seq]
  simp only [e_var, e_C, e_op, e_neg, e_isN, e_notN, e_and, e_or, e_not, e_test, e_tAnd, e_tOr, e_tNot, e_tYes, e_if, e_aNil, e_aCons, e_tup, e_lst, e_lstN, e_len0, e_len1, e_len2, e_len3, e_len4, e_len5, e_cb, e_on1, e_on2, e_onI, e_onB, e_onO, e_onO0, e_onOO, e_I0, e_I, e_add, e_addT, e_addS, e_addL, e_addLR, e_addRL, e_addRR, e_mul, e_mulL, e_mulT, e_rev, e_revT, e_ix, e_eqI, e_eqS, e_eqB, e_neI, e_neS, e_neB, e_ltI, e_chain, e_len, e_abs, e_2I, e_tuple1, e_tuple2, e_tuple3, e_listT, e_listN, e_allR, e_seqT, e_seqK, e_seqL, e_isi, e_isB, e_notB, e_truth, e_next, e_drop, e_ret, e_retN, e_ifS, e_set, e_asg, e_par, e_nm, e_gsN, e_gsC, e_gTpK, e_gTpL, e_sum, e_maxL, e_minL, e_maxDef, e_int, e_intB, e_aug, e_on3, e_par3, e_newK, e_getK, e_keyI, e_keyS, e_inK, e_ninK, e_putK, e_lenK, e_lstS, e_seqX, e_gTpT, e_oN, e_oS, e_sl, e_slT, e_slL, e_finT, e_finN, e_index, e_idxT, e_idxL, e_mIx, e_ixST, e_ixSL, e_mtL, e_w, e_w1, e_w2, e_wE, e_wZ, e_itK, e_itT, e_itL, e_itT2, e_itL2, e_lc, e_for, e_wipe0, e_wipe, e_okI, e_okR, e_gSb, List.getElem?_cons_zero, List.getElem?_cons_succ, List.set_cons_zero, List.set_cons_succ]
  refine ⟨c, rfl, hc, ?_⟩
  unfold rowD
  simp only [e_var, e_C, e_op, e_neg, e_isN, e_notN, e_and, e_or, e_not, e_test, e_tAnd, e_tOr, e_tNot, e_tYes, e_if, e_aNil, e_aCons, e_tup, e_lst, e_lstN, e_len0, e_len1, e_len2, e_len3, e_len4, e_len5, e_cb, e_on1, e_on2, e_onI, e_onB, e_onO, e_onO0, e_onOO, e_I0, e_I, e_add, e_addT, e_addS, e_addL, e_addLR, e_addRL, e_addRR, e_mul, e_mulL, e_mulT, e_rev, e_revT, e_ix, e_eqI, e_eqS, e_eqB, e_neI, e_neS, e_neB, e_ltI, e_chain, e_len, e_abs, e_2I, e_tuple1, e_tuple2, e_tuple3, e_listT, e_listN, e_allR, e_seqT, e_seqK, e_seqL, e_isi, e_isB, e_notB, e_truth, e_next, e_drop, e_ret, e_retN, e_ifS, e_set, e_asg, e_par, e_nm, e_gsN, e_gsC, e_gTpK, e_gTpL, e_sum, e_maxL, e_minL, e_maxDef, e_int, e_intB, e_aug, e_on3, e_par3, e_newK, e_getK, e_keyI, e_keyS, e_inK, e_ninK, e_putK, e_lenK, e_lstS, e_seqX, e_gTpT, e_oN, e_oS, e_sl, e_slT, e_slL, e_finT, e_finN, e_index, e_idxT, e_idxL, e_mIx, e_ixST, e_ixSL, e_mtL, e_w, e_w1, e_w2, e_wE, e_wZ, e_itK, e_itT, e_itL, e_itT2, e_itL2, e_lc, e_for, e_wipe0, e_wipe, e_okI, e_okR, e_gSb, List.getElem?_cons_zero, List.getElem?_cons_succ, List.set_cons_zero, List.set_cons_succ, List.length_map, rgD_length, Int.toNat_natCast]
  refine ⟨⟨by omega, by omega⟩, by omega, lc_rngIf (isTk c) (fun s => .int (s : Nat)) (fun k lt Q' q' => ?_) (fun k lt _ Q' q' => ?_) ?_⟩
  · simp only [e_var, e_C, e_op, e_neg, e_isN, e_notN, e_and, e_or, e_not, e_test, e_tAnd, e_tOr, e_tNot, e_tYes, e_if, e_aNil, e_aCons, e_tup, e_lst, e_lstN, e_len0, e_len1, e_len2, e_len3, e_len4, e_len5, e_cb, e_on1, e_on2, e_onI, e_onB, e_onO, e_onO0, e_onOO, e_I0, e_I, e_add, e_addT, e_addS, e_addL, e_addLR, e_addRL, e_addRR, e_mul, e_mulL, e_mulT, e_rev, e_revT, e_ix, e_eqI, e_eqS, e_eqB, e_neI, e_neS, e_neB, e_ltI, e_chain, e_len, e_abs, e_2I, e_tuple1, e_tuple2, e_tuple3, e_listT, e_listN, e_allR, e_seqT, e_seqK, e_seqL, e_isi, e_isB, e_notB, e_truth, e_next, e_drop, e_ret, e_retN, e_ifS, e_set, e_asg, e_par, e_nm, e_gsN, e_gsC, e_gTpK, e_gTpL, e_sum, e_maxL, e_minL, e_maxDef, e_int, e_intB, e_aug, e_on3, e_par3, e_newK, e_getK, e_keyI, e_keyS, e_inK, e_ninK, e_putK, e_lenK, e_lstS, e_seqX, e_gTpT, e_oN, e_oS, e_sl, e_slT, e_slL, e_finT, e_finN, e_index, e_idxT, e_idxL, e_mIx, e_ixST, e_ixSL, e_mtL, e_w, e_w1, e_w2, e_wE, e_wZ, e_itK, e_itT, e_itL, e_itT2, e_itL2, e_lc, e_for, e_wipe0, e_wipe, e_okI, e_okR, e_gSb, List.getElem?_cons_zero, List.getElem?_cons_succ, List.set_cons_zero, List.set_cons_succ, prev_at (ML.flowsI_length c) lt, row_at lt]
    exact q'
  · simp only [e_var, e_C, e_op, e_neg, e_isN, e_notN, e_and, e_or, e_not, e_test, e_tAnd, e_tOr, e_tNot, e_tYes, e_if, e_aNil, e_aCons, e_tup, e_lst, e_lstN, e_len0, e_len1, e_len2, e_len3, e_len4, e_len5, e_cb, e_on1, e_on2, e_onI, e_onB, e_onO, e_onO0, e_onOO, e_I0, e_I, e_add, e_addT, e_addS, e_addL, e_addLR, e_addRL, e_addRR, e_mul, e_mulL, e_mulT, e_rev, e_revT, e_ix, e_eqI, e_eqS, e_eqB, e_neI, e_neS, e_neB, e_ltI, e_chain, e_len, e_abs, e_2I, e_tuple1, e_tuple2, e_tuple3, e_listT, e_listN, e_allR, e_seqT, e_seqK, e_seqL, e_isi, e_isB, e_notB, e_truth, e_next, e_drop, e_ret, e_retN, e_ifS, e_set, e_asg, e_par, e_nm, e_gsN, e_gsC, e_gTpK, e_gTpL, e_sum, e_maxL, e_minL, e_maxDef, e_int, e_intB, e_aug, e_on3, e_par3, e_newK, e_getK, e_keyI, e_keyS, e_inK, e_ninK, e_putK, e_lenK, e_lstS, e_seqX, e_gTpT, e_oN, e_oS, e_sl, e_slT, e_slL, e_finT, e_finN, e_index, e_idxT, e_idxL, e_mIx, e_ixST, e_ixSL, e_mtL, e_w, e_w1, e_w2, e_wE, e_wZ, e_itK, e_itT, e_itL, e_itT2, e_itL2, e_lc, e_for, e_wipe0, e_wipe, e_okI, e_okR, e_gSb, List.getElem?_cons_zero, List.getElem?_cons_succ, List.set_cons_zero, List.set_cons_succ]
    exact q'
  · refine tuple_end (.inl ?_)
    unfold rowD takenI at q
    rw [List.map_map] at q
    exact q
def waitsI (c : List Int) : List Int := (List.range c.length).flatMap fun s => (List.range (c.getD s 0).toNat).map fun k : Nat => ML.cy (ML.flowsI c) (s + (c.length - 1)) + (k : Int)
theorem waits_len {c : List Int} (h : Cnt c) : (waitsI c).length ≤ c.length := by
  have e : ((waitsI c).length : Int) = ML.sumL c := by
    unfold waitsI
    rw [ML.sumL_N]
    have gen : ∀ m, m ≤ c.length → (((List.range m).flatMap fun s => (List.range (c.getD s 0).toNat).map fun k : Nat => ML.cy (ML.flowsI c) (s + (c.length - 1)) + (k : Int)).length : Int) = ML.sumN m fun i => c.getD i 0 := by
      intro m
      induction m with
      | zero => intro _; rfl
      | succ m ih =>
        intro hm
        rw [List.range_succ, List.flatMap_append, List.length_append, Int.natCast_add, ih (by omega)]
        show _ + _ = _ + _
        have z : 0 ≤ c.getD m 0 := by
          rw [List.getD_eq_getElem?_getD, List.getElem?_eq_getElem (by omega)]
          exact h.nn _ (List.getElem_mem _)
        simp only [List.flatMap_cons, List.flatMap_nil, List.append_nil, List.length_map, List.length_range]
        omega
    exact gen _ (Nat.le_refl _)
  have := h.room
  omega
def g_waits : DRs := fun ds st Q => ∃ c : List Int, ds = [rowD c] ∧ Cnt c ∧ Q (.lst ((waitsI c).map D.int)) st
theorem ar_waits (ds : List D) (st : DSt) (Q : DK) (h : g_waits ds st Q) : ds.length = 1 := by
  obtain ⟨_, rfl, _⟩ := h
  rfl
theorem comp2_rng {te : DTE} {r : DEnv} {f1 : DTI} {vs1 : List Nat} {Q : List D → DSt → Prop} {st : DSt} {xs : List D} {i j : Nat} (len : Nat → Nat) (h : Nat → Nat → D) :
    ∀ (m n : Nat) (acc : List D), acc.length + ((List.range m).flatMap fun s => (List.range (len (n + s))).map (h (n + s))).length ≤ sizeLine →
      (∀ k, n ≤ k → k < n + m → ∀ R : DIt → DSt → Prop, R ⟨rgD 0 (len k), none⟩ st → f1 (r.set i (some (.int (k : Nat)))) st R) →
      (∀ k l, n ≤ k → k < n + m → l < len k → Ev te ((wipeD (r.set i (some (.int (k : Nat)))) vs1).set j (some (.int (l : Nat)))) st (h k l)) →
      Q (acc ++ ((List.range m).flatMap fun s => (List.range (len (n + s))).map (h (n + s)))) st →
      comp2 ⟨xs, none⟩ (gNm i) dtYes f1 (gNm j) dtYes te r vs1 Q ((List.range m).map fun s => D.int ((n + s : Nat) : Int)) acc st
  | 0, n, acc, _, _, _, q => by
    have q' : Q acc st := by simpa using q
    exact q'
  | m + 1, n, acc, le, h1, h2, q => by
    have er : (List.range (m + 1)).map (fun s => D.int ((n + s : Nat) : Int)) = .int (n : Nat) :: (List.range m).map fun s => D.int ((n + 1 + s : Nat) : Int) := by
      rw [List.range_succ_eq_map, List.map_cons, List.map_map]
      congr 1
      exact List.map_congr_left fun s _ => by show D.int ((n + (s + 1) : Nat) : Int) = _; rw [show n + (s + 1) = n + 1 + s by omega]
    have ef : ((List.range (m + 1)).flatMap fun s => (List.range (len (n + s))).map (h (n + s))) = (List.range (len n)).map (h n) ++ (List.range m).flatMap fun s => (List.range (len (n + 1 + s))).map (h (n + 1 + s)) := by
      rw [List.range_succ_eq_map, List.flatMap_cons, List.flatMap_map]
      refine congrArg (fun f => _ ++ (List.range m).flatMap f) (funext fun s => ?_)
      rw [show n + Nat.succ s = n + 1 + s by omega]
    rw [er]
    rw [ef] at le q
    rw [List.length_append] at le
    show f1 (r.set i (some (.int (n : Nat)))) st _
    refine h1 n (Nat.le_refl _) (by omega) _ ?_
    refine compI_rng (fun d => match d with | .int l => h n l.toNat | _ => .non) _ acc (by rw [rgD_length]; simp at le; omega) (fun d hd => ?_) ?_
    · obtain ⟨l, lt, rfl⟩ := rgD_mem hd
      rw [Int.zero_add]
      exact h2 n l (Nat.le_refl _) (by omega) lt
    · have e3 : (rgD 0 (len n)).map (fun d => match d with | .int l => h n l.toNat | _ => .non) = (List.range (len n)).map (h n) := by
        rw [rgD0, List.map_map]
        rfl
      rw [e3]
      refine comp2_rng len h m (n + 1) _ (by rw [List.length_append]; omega) (fun k a b => h1 k (by omega) (by omega)) (fun k l a b => h2 k l (by omega) (by omega)) ?_
      rw [List.append_assoc]
      exact q
theorem sem_waits (ds : List D) (st : DSt) (Q : DK) (h : g_waits ds st Q) : F_waits g_flows { nx := fun _ st' => Rt st Q .non st', rt := Rt st Q } (startD 4 ds) st := by
  obtain ⟨c, rfl, hc, q⟩ := h
  have st4 : startD 4 [rowD c] = [some (.tup (c.map D.int)), none, none, none] := rfl
  have big : (1000 : Nat) ≤ sizeLine := by decide
  have few := hc.few
  have wl := waits_len hc
  simp only [F_waits, st4]
  rw [e_seq]
  simp only [e_var, e_C, e_op, e_neg, e_isN, e_notN, e_and, e_or, e_not, e_test, e_tAnd, e_tOr, e_tNot, e_tYes, e_if, e_aNil, e_aCons, e_tup, e_lst, e_lstN, e_len0, e_len1, e_len2, e_len3, e_len4, e_len5, e_cb, e_on1, e_on2, e_onI, e_onB, e_onO, e_onO0, e_onOO, e_I0, e_I, e_add, e_addT, e_addS, e_addL, e_addLR, e_addRL, e_addRR, e_mul, e_mulL, e_mulT, e_rev, e_revT, e_ix, e_eqI, e_eqS, e_eqB, e_neI, e_neS, e_neB, e_ltI, e_chain, e_len, e_abs, e_2I, e_tuple1, e_tuple2, e_tuple3, e_listT, e_listN, e_allR, e_seqT, e_seqK, e_seqL, e_isi, e_isB, e_notB, e_truth, e_next, e_drop, e_ret, e_retN, e_ifS, e_set, e_asg, e_par, e_nm, e_gsN, e_gsC, e_gTpK, e_gTpL, e_sum, e_maxL, e_minL, e_maxDef, e_int, e_intB, e_aug, e_on3, e_par3, e_newK, e_getK, e_keyI, e_keyS, e_inK, e_ninK, e_putK, e_lenK, e_lstS, e_seqX, e_gTpT, e_oN, e_oS, e_sl, e_slT, e_slL, e_finT, e_finN, e_index, e_idxT, e_idxL, e_mIx, e_ixST, e_ixSL, e_mtL, e_w, e_w1, e_w2, e_wE, e_wZ, e_itK, e_itT, e_itL, e_itT2, e_itL2, e_lc, e_for, e_wipe0, e_wipe, e_okI, e_okR, e_gSb, List.getElem?_cons_zero, List.getElem?_cons_succ, List.set_cons_zero, List.set_cons_succ]
  refine ⟨c, rfl, hc, ?_⟩
  unfold rowD
  simp only [e_var, e_C, e_op, e_neg, e_isN, e_notN, e_and, e_or, e_not, e_test, e_tAnd, e_tOr, e_tNot, e_tYes, e_if, e_aNil, e_aCons, e_tup, e_lst, e_lstN, e_len0, e_len1, e_len2, e_len3, e_len4, e_len5, e_cb, e_on1, e_on2, e_onI, e_onB, e_onO, e_onO0, e_onOO, e_I0, e_I, e_add, e_addT, e_addS, e_addL, e_addLR, e_addRL, e_addRR, e_mul, e_mulL, e_mulT, e_rev, e_revT, e_ix, e_eqI, e_eqS, e_eqB, e_neI, e_neS, e_neB, e_ltI, e_chain, e_len, e_abs, e_2I, e_tuple1, e_tuple2, e_tuple3, e_listT, e_listN, e_allR, e_seqT, e_seqK, e_seqL, e_isi, e_isB, e_notB, e_truth, e_next, e_drop, e_ret, e_retN, e_ifS, e_set, e_asg, e_par, e_nm, e_gsN, e_gsC, e_gTpK, e_gTpL, e_sum, e_maxL, e_minL, e_maxDef, e_int, e_intB, e_aug, e_on3, e_par3, e_newK, e_getK, e_keyI, e_keyS, e_inK, e_ninK, e_putK, e_lenK, e_lstS, e_seqX, e_gTpT, e_oN, e_oS, e_sl, e_slT, e_slL, e_finT, e_finN, e_index, e_idxT, e_idxL, e_mIx, e_ixST, e_ixSL, e_mtL, e_w, e_w1, e_w2, e_wE, e_wZ, e_itK, e_itT, e_itL, e_itT2, e_itL2, e_lc, e_for, e_wipe0, e_wipe, e_okI, e_okR, e_gSb, List.getElem?_cons_zero, List.getElem?_cons_succ, List.set_cons_zero, List.set_cons_succ, e_lc2, List.length_map, Int.toNat_natCast]
  refine ⟨⟨by omega, by omega⟩, ?_⟩
  have er : rgD 0 c.length = (List.range c.length).map fun s => D.int ((0 + s : Nat) : Int) := by
    rw [rgD0]
    exact List.map_congr_left fun s _ => by rw [Nat.zero_add]
  have ew : ((List.range c.length).flatMap fun s => (List.range ((fun s => (c.getD s 0).toNat) (0 + s))).map ((fun s (k : Nat) => D.int (ML.cy (ML.flowsI c) (s + (c.length - 1)) + (k : Int))) (0 + s))) = (waitsI c).map D.int := by
    unfold waitsI
    rw [List.map_flatMap]
    simp only [Nat.zero_add, List.map_map]
    rfl
  rw [er]
  refine comp2_rng (fun s => (c.getD s 0).toNat) (fun s k => .int (ML.cy (ML.flowsI c) (s + (c.length - 1)) + (k : Int))) c.length 0 [] (by rw [ew, List.length_map]; simp; omega) (fun k _ lt R hR => ?_) (fun k l _ lt ll Q' q' => ?_) ?_
  · have lk : k < c.length := by omega
    have z : 0 ≤ c.getD k 0 ∧ c.getD k 0 ≤ c.length := by
      rw [List.getD_eq_getElem?_getD, List.getElem?_eq_getElem lk]
      exact ⟨hc.nn _ (List.getElem_mem _), hc.le (List.getElem_mem _)⟩
    simp only [e_var, e_C, e_op, e_neg, e_isN, e_notN, e_and, e_or, e_not, e_test, e_tAnd, e_tOr, e_tNot, e_tYes, e_if, e_aNil, e_aCons, e_tup, e_lst, e_lstN, e_len0, e_len1, e_len2, e_len3, e_len4, e_len5, e_cb, e_on1, e_on2, e_onI, e_onB, e_onO, e_onO0, e_onOO, e_I0, e_I, e_add, e_addT, e_addS, e_addL, e_addLR, e_addRL, e_addRR, e_mul, e_mulL, e_mulT, e_rev, e_revT, e_ix, e_eqI, e_eqS, e_eqB, e_neI, e_neS, e_neB, e_ltI, e_chain, e_len, e_abs, e_2I, e_tuple1, e_tuple2, e_tuple3, e_listT, e_listN, e_allR, e_seqT, e_seqK, e_seqL, e_isi, e_isB, e_notB, e_truth, e_next, e_drop, e_ret, e_retN, e_ifS, e_set, e_asg, e_par, e_nm, e_gsN, e_gsC, e_gTpK, e_gTpL, e_sum, e_maxL, e_minL, e_maxDef, e_int, e_intB, e_aug, e_on3, e_par3, e_newK, e_getK, e_keyI, e_keyS, e_inK, e_ninK, e_putK, e_lenK, e_lstS, e_seqX, e_gTpT, e_oN, e_oS, e_sl, e_slT, e_slL, e_finT, e_finN, e_index, e_idxT, e_idxL, e_mIx, e_ixST, e_ixSL, e_mtL, e_w, e_w1, e_w2, e_wE, e_wZ, e_itK, e_itT, e_itL, e_itT2, e_itL2, e_lc, e_for, e_wipe0, e_wipe, e_okI, e_okR, e_gSb, List.getElem?_cons_zero, List.getElem?_cons_succ, List.set_cons_zero, List.set_cons_succ, row_at lk]
    exact ⟨⟨by omega, by omega⟩, hR⟩
  · have lk : k < c.length := by omega
    simp only [e_var, e_C, e_op, e_neg, e_isN, e_notN, e_and, e_or, e_not, e_test, e_tAnd, e_tOr, e_tNot, e_tYes, e_if, e_aNil, e_aCons, e_tup, e_lst, e_lstN, e_len0, e_len1, e_len2, e_len3, e_len4, e_len5, e_cb, e_on1, e_on2, e_onI, e_onB, e_onO, e_onO0, e_onOO, e_I0, e_I, e_add, e_addT, e_addS, e_addL, e_addLR, e_addRL, e_addRR, e_mul, e_mulL, e_mulT, e_rev, e_revT, e_ix, e_eqI, e_eqS, e_eqB, e_neI, e_neS, e_neB, e_ltI, e_chain, e_len, e_abs, e_2I, e_tuple1, e_tuple2, e_tuple3, e_listT, e_listN, e_allR, e_seqT, e_seqK, e_seqL, e_isi, e_isB, e_notB, e_truth, e_next, e_drop, e_ret, e_retN, e_ifS, e_set, e_asg, e_par, e_nm, e_gsN, e_gsC, e_gTpK, e_gTpL, e_sum, e_maxL, e_minL, e_maxDef, e_int, e_intB, e_aug, e_on3, e_par3, e_newK, e_getK, e_keyI, e_keyS, e_inK, e_ninK, e_putK, e_lenK, e_lstS, e_seqX, e_gTpT, e_oN, e_oS, e_sl, e_slT, e_slL, e_finT, e_finN, e_index, e_idxT, e_idxL, e_mIx, e_ixST, e_ixSL, e_mtL, e_w, e_w1, e_w2, e_wE, e_wZ, e_itK, e_itT, e_itL, e_itT2, e_itL2, e_lc, e_for, e_wipe0, e_wipe, e_okI, e_okR, e_gSb, List.getElem?_cons_zero, List.getElem?_cons_succ, List.set_cons_zero, List.set_cons_succ, prev_at (ML.flowsI_length c) lk]
    exact q'
  · rw [ew, List.nil_append]
    exact .inl q
def maxI (l : List Int) : Int := l.foldl max 0
theorem maxI_spec (l : List Int) (h : ∀ x ∈ l, 0 ≤ x) : (l = [] ∧ maxI l = 0 ∨ maxI l ∈ l) ∧ ∀ y ∈ l, y ≤ maxI l := by
  obtain ⟨m1, m2⟩ := fmax_spec l 0
  refine ⟨?_, fun y hy => m2 y (List.mem_cons_of_mem _ hy)⟩
  cases l with
  | nil => exact .inl ⟨rfl, rfl⟩
  | cons a r =>
    right
    rcases List.mem_cons.mp m1 with z | z
    · have := m2 a (List.mem_cons_of_mem _ List.mem_cons_self)
      have := h a List.mem_cons_self
      unfold maxI
      rw [z]
      have : a = 0 := by omega
      rw [this]
      exact List.mem_cons_self
    · exact z
theorem max_one {l : List Int} {a b : Int} (h1 : a ∈ l) (h2 : ∀ y ∈ l, y ≤ a) (h3 : b ∈ l) (h4 : ∀ y ∈ l, y ≤ b) : a = b := by
  have := h2 b h3
  have := h4 a h1
  omega
theorem waits_nn {c : List Int} (hc : Cnt c) : ∀ x ∈ waitsI c, 0 ≤ x := by
  intro x hx
  unfold waitsI at hx
  obtain ⟨s, _, hx⟩ := List.mem_flatMap.mp hx
  obtain ⟨k, _, rfl⟩ := List.mem_map.mp hx
  have := hc.flow.nn (s + (c.length - 1))
  omega
def g_great : DRs := fun ds st Q => ∃ c : List Int, ds = [rowD c] ∧ Cnt c ∧ Q (.int (maxI (waitsI c))) st
theorem ar_great (ds : List D) (st : DSt) (Q : DK) (h : g_great ds st Q) : ds.length = 1 := by
  obtain ⟨_, rfl, _⟩ := h
  rfl
theorem sem_great (ds : List D) (st : DSt) (Q : DK) (h : g_great ds st Q) : F_greatest_distance g_waits { nx := fun _ st' => Rt st Q .non st', rt := Rt st Q } (startD 1 ds) st := by
  obtain ⟨c, rfl, hc, q⟩ := h
  have st1 : startD 1 [rowD c] = [some (.tup (c.map D.int))] := rfl
  simp only [F_greatest_distance, st1, e_var, e_C, e_op, e_neg, e_isN, e_notN, e_and, e_or, e_not, e_test, e_tAnd, e_tOr, e_tNot, e_tYes, e_if, e_aNil, e_aCons, e_tup, e_lst, e_lstN, e_len0, e_len1, e_len2, e_len3, e_len4, e_len5, e_cb, e_on1, e_on2, e_onI, e_onB, e_onO, e_onO0, e_onOO, e_I0, e_I, e_add, e_addT, e_addS, e_addL, e_addLR, e_addRL, e_addRR, e_mul, e_mulL, e_mulT, e_rev, e_revT, e_ix, e_eqI, e_eqS, e_eqB, e_neI, e_neS, e_neB, e_ltI, e_chain, e_len, e_abs, e_2I, e_tuple1, e_tuple2, e_tuple3, e_listT, e_listN, e_allR, e_seqT, e_seqK, e_seqL, e_isi, e_isB, e_notB, e_truth, e_next, e_seq, e_drop, e_ret, e_retN, e_ifS, e_set, e_asg, e_par, e_nm, e_gsN, e_gsC, e_gTpK, e_gTpL, e_sum, e_maxL, e_minL, e_maxDef, e_int, e_intB, e_aug, e_on3, e_par3, e_newK, e_getK, e_keyI, e_keyS, e_inK, e_ninK, e_putK, e_lenK, e_lstS, e_seqX, e_gTpT, e_oN, e_oS, e_sl, e_slT, e_slL, e_finT, e_finN, e_index, e_idxT, e_idxL, e_mIx, e_ixST, e_ixSL, e_mtL, e_w, e_w1, e_w2, e_wE, e_wZ, e_itK, e_itT, e_itL, e_itT2, e_itL2, e_lc, e_for, e_wipe0, e_wipe, e_okI, e_okR, e_gSb, List.getElem?_cons_zero, List.getElem?_cons_succ, List.set_cons_zero, List.set_cons_succ]
  refine ⟨c, rfl, hc, ?_⟩
  simp only [e_var, e_C, e_op, e_neg, e_isN, e_notN, e_and, e_or, e_not, e_test, e_tAnd, e_tOr, e_tNot, e_tYes, e_if, e_aNil, e_aCons, e_tup, e_lst, e_lstN, e_len0, e_len1, e_len2, e_len3, e_len4, e_len5, e_cb, e_on1, e_on2, e_onI, e_onB, e_onO, e_onO0, e_onOO, e_I0, e_I, e_add, e_addT, e_addS, e_addL, e_addLR, e_addRL, e_addRR, e_mul, e_mulL, e_mulT, e_rev, e_revT, e_ix, e_eqI, e_eqS, e_eqB, e_neI, e_neS, e_neB, e_ltI, e_chain, e_len, e_abs, e_2I, e_tuple1, e_tuple2, e_tuple3, e_listT, e_listN, e_allR, e_seqT, e_seqK, e_seqL, e_isi, e_isB, e_notB, e_truth, e_next, e_seq, e_drop, e_ret, e_retN, e_ifS, e_set, e_asg, e_par, e_nm, e_gsN, e_gsC, e_gTpK, e_gTpL, e_sum, e_maxL, e_minL, e_maxDef, e_int, e_intB, e_aug, e_on3, e_par3, e_newK, e_getK, e_keyI, e_keyS, e_inK, e_ninK, e_putK, e_lenK, e_lstS, e_seqX, e_gTpT, e_oN, e_oS, e_sl, e_slT, e_slL, e_finT, e_finN, e_index, e_idxT, e_idxL, e_mIx, e_ixST, e_ixSL, e_mtL, e_w, e_w1, e_w2, e_wE, e_wZ, e_itK, e_itT, e_itL, e_itT2, e_itL2, e_lc, e_for, e_wipe0, e_wipe, e_okI, e_okR, e_gSb, List.getElem?_cons_zero, List.getElem?_cons_succ, List.set_cons_zero, List.set_cons_succ, intsD_ints]
  obtain ⟨sp, up⟩ := maxI_spec (waitsI c) (waits_nn hc)
  refine ⟨fun e => ?_, fun m m1 m2 => ?_⟩
  · rcases sp with ⟨_, z⟩ | z
    · rw [z] at q; exact .inl q
    · rw [e] at z; cases z
  · rcases sp with ⟨z, _⟩ | z
    · rw [z] at m1; cases m1
    · rw [max_one m1 m2 z up]; exact .inl q
def sqSum (l : List Int) : Int := ML.sumL (l.map fun x => x * x)
def g_sq : DRs := fun ds st Q => ∃ c : List Int, ds = [rowD c] ∧ Cnt c ∧ Q (.int (sqSum (waitsI c))) st
theorem ar_sq (ds : List D) (st : DSt) (Q : DK) (h : g_sq ds st Q) : ds.length = 1 := by
  obtain ⟨_, rfl, _⟩ := h
  rfl
end DL
namespace DL
open PySem PySem.Spec PyProof.Rows L2 LamX PySem.W SL
section
variable {st : DSt} {p : Nat} {o o2 : O} {junk : List O} {x y z : O}
theorem ownA : (st ++ x :: junk)[st.length]? = some x := by simp
theorem ownB : (st ++ x :: y :: junk)[st.length + 1]? = some y := by
  rw [List.getElem?_append_right (by omega), show st.length + 1 - st.length = 1 by omega]
  rfl
theorem putA : (st ++ x :: junk).set st.length y = st ++ y :: junk := by simp
theorem putB {w : O} : (st ++ x :: y :: junk).set (st.length + 1) w = st ++ x :: w :: junk := by
  rw [List.set_append_right _ _ (by omega), show st.length + 1 - st.length = 1 by omega]
  rfl
end
theorem ixN_lt {n j : Nat} (h : j < n) : ixN n (j : Int) = some j := by
  unfold ixN
  rw [if_pos (by omega), if_pos (by omega)]
  simp
theorem take_ev {p : Nat} {z : Int} {n : Nat} {st : DSt} {Q : DK} (pot : Pot (n + 1) p st) (z0 : 0 < z) (z1 : z ≤ 1000) (q : ∀ (r : Nat) (o : O), (r : Int) < z → PotO n o → Q (.int r) (st.set p o)) : g_take [.ref p, .int z] st Q :=
  ⟨p, z, n, rfl, pot, z0, z1, fun r o r0 r1 po => by
    obtain ⟨k, rfl⟩ := Int.eq_ofNat_of_zero_le r0
    exact q k o r1 po⟩
theorem pick_ev {p : Nat} {xs : List D} {n : Nat} {st : DSt} {Q : DK} (pot : Pot (n + 1) p st) (ne : xs ≠ []) (few : xs.length ≤ 1000) (q : ∀ (d : D) (o : O), d ∈ xs → PotO n o → Q d (st.set p o)) : g_pick [.ref p, .lst xs] st Q :=
  ⟨p, _, xs, n, rfl, fun z => (by cases z), rfl, ne, few, pot, q⟩
theorem sum_set {l : List Int} {i : Nat} (h : i < l.length) (x : Int) : ML.sumL (l.set i x) = ML.sumL l - l.getD i 0 + x := by
  induction l generalizing i with
  | nil => cases h
  | cons y r ih =>
    cases i with
    | zero => show x + ML.sumL r = y + ML.sumL r - y + x; omega
    | succ i =>
      show y + ML.sumL (r.set i x) = y + ML.sumL r - r.getD i 0 + x
      rw [ih (by simpa using h)]
      omega
theorem getD_mem {l : List Int} {i : Nat} (h : i < l.length) : l.getD i 0 ∈ l := by
  rw [List.getD_eq_getElem?_getD, List.getElem?_eq_getElem h]
  exact List.getElem_mem h
theorem sumL_rep (n : Nat) : ML.sumL (List.replicate n 0) = 0 := by
  induction n with
  | zero => rfl
  | succ n ih => rw [List.replicate_succ, ML.sumL_cons, ih]; rfl
theorem rep_flat {α : Type} (n : Nat) (a : α) : (List.replicate n [a]).flatten = List.replicate n a := by
  induction n with
  | zero => rfl
  | succ n ih => rw [List.replicate_succ, List.flatten_cons, ih, List.replicate_succ]; rfl
end DL
namespace DL
open PySem PySem.Spec PyProof.Rows L2 LamX PySem.W SL
def pairN (x : Nat × Nat) : D := .tup [.int (x.1 : Nat), .int (x.2 : Nat)]
def pathD (p : List (Nat × Nat)) : D := .tup (p.map pairN)
theorem clos_pairs (n : Nat) : ∀ p : List (Nat × Nat), clos n (p.map pairN) = true
  | [] => rfl
  | x :: r => by rw [List.map_cons]; simp [clos, clo, pairN, clos_pairs n r]
theorem lay_at {sl : List Int} {s : Nat} {x : Int} (h : sl[s]? = some x) : atI (sl.map D.int) (s : Int) = some (.int x) := atI_nat (by rw [List.getElem?_map, h]; rfl)
theorem At.d {sl : List Int} {s k : Nat} (h : At sl s k) : atI (sl.map D.int) (s : Int) = some (.int (k : Nat)) := lay_at h
section
variable {m n : Nat} {P : List (List Int)} {R : List (List (List Int))}
theorem Setg.p_at (S : Setg m n P R) {a : Nat} (h : a < m) : atI (P.map rowD) (a : Int) = some (.tup ((P.getD a []).map D.int)) := rows_at (by rw [S.pl]; exact h)
theorem Setg.r_at (S : Setg m n P R) {s : Nat} (h : s < n) : atI (R.map rowsD) (s : Int) = some (.tup ((R.getD s []).map rowD)) := at_map (by rw [List.getD_eq_getElem?_getD, List.getElem?_eq_getElem (by rw [S.rl]; exact h)]; rfl)
theorem Setg.t_at (S : Setg m n P R) {s k : Nat} (h : s < n) (hk : k < m) : atI ((R.getD s []).map rowD) (k : Int) = some (.tup (((R.getD s []).getD k []).map D.int)) := rows_at (by rw [(S.tb h).len]; exact hk)
theorem Setg.s_at (S : Setg m n P R) {a i : Nat} (ha : a < m) (hi : i < n) : atI ((P.getD a []).map D.int) (i : Int) = some (.int (pr P a i : Nat)) := lay_at (S.pr_at ha hi).1
theorem nin_row {st : DSt} {ns : List Int} {x : Int} {Q : DK} (q : Q (.bl (!decide (x ∈ ns))) st) : dInG true (.int x) (.tup (ns.map D.int)) st Q := by
  simp only [e_nin, e_seqT, e_onO]
  refine ⟨⟨rfl, flat_row ns⟩, ?_⟩
  have z : (ns.map D.int).any (fun y => eqF y (.int x)) = decide (x ∈ ns) := by
    rw [Bool.eq_iff_iff, List.any_eq_true, decide_eq_true_eq]
    constructor
    · rintro ⟨d, hd, e⟩
      obtain ⟨i, hi, rfl⟩ := List.mem_map.mp hd
      have e' : (i == x) = true := e
      have : i = x := by simpa using e'
      rw [← this]; exact hi
    · intro h
      exact ⟨.int x, List.mem_map.mpr ⟨x, h, rfl⟩, by show (x == x) = true; simp⟩
  rw [z]
  exact q
theorem mem_lay {sl : List Int} {a : Nat} : (a : Int) ∈ sl ↔ ∃ s, At sl s a := by
  rw [List.mem_iff_getElem?]
  rfl
def g_insert : DRs := fun ds st Q => ∃ (m n : Nat) (P : List (List Int)) (R : List (List (List Int))) (sl : List Int) (a : Nat), ds = [rowsD P, tabsD R, rowD sl, .int (a : Nat)] ∧ Setg m n P R ∧ m ≤ 60 ∧ n ≤ 60 ∧ Go m n P sl a 0 ∧ Q (.tup [rowD (ins P R sl a).1, pathD (ins P R sl a).2]) st
theorem ar_insert (ds : List D) (st : DSt) (Q : DK) (h : g_insert ds st Q) : ds.length = 4 := by
  obtain ⟨_, _, _, _, _, _, rfl, _⟩ := h
  rfl
theorem insG_len : ∀ (f : Nat) (sl : List Int) (a i : Nat) (L : List Int) (p : List (Nat × Nat)), insG P R f sl a i = some (L, p) → p.length ≤ f
  | 0, _, _, _, _, _, h => by cases h
  | f + 1, sl, a, i, L, p, h => by
    unfold insG at h
    split at h
    · split at h
      · obtain ⟨⟨L2, p2⟩, h1, h2⟩ := Option.map_eq_some_iff.mp h
        cases h2
        have := insG_len f _ _ _ _ p2 h1
        simp
        omega
      · have := insG_len f _ _ _ _ p h
        omega
    · cases h
      simp
theorem pot_le (S : Setg m n P R) {sl : List Int} (l : sl.length = n) : pot P n sl ≤ n * n := by
  unfold pot
  rw [l]
  have gen : ∀ k, ((List.range k).map fun t => wt P n t (sl.getD t (-1))).sum ≤ k * n := by
    intro k
    induction k with
    | zero => simp
    | succ k ih =>
      rw [List.range_succ, List.map_append, List.sum_append, Nat.succ_mul]
      have : wt P n k (sl.getD k (-1)) ≤ n := by unfold wt; split <;> omega
      simp only [List.map_cons, List.map_nil, List.sum_cons, List.sum_nil]
      omega
  exact gen n
set_option maxHeartbeats 4000000 in
theorem sem_insert (ds : List D) (st : DSt) (Q : DK) (h : g_insert ds st Q) : F_insert { nx := fun _ st' => Rt st Q .non st', rt := Rt st Q } (startD 8 ds) st := by
  obtain ⟨m, n, P, R, sl, a, rfl, S, m60, n60, G, q⟩ := h
  have st8 : startD 8 [rowsD P, tabsD R, rowD sl, D.int (a : Nat)] = [some (.tup (P.map rowD)), some (.tup (R.map rowsD)), some (.tup (sl.map D.int)), some (.int (a : Nat)), none, none, none, none] := rfl
  have big : (100000 : Nat) ≤ sizeLine := by decide
  have nn : n * n ≤ 60 * 60 := Nat.mul_le_mul n60 n60
  have eI := ins_eq S G
  have pl := pot_le S G.g.lay.len
  have rl := S.rl
  have n0 : 0 < n := Nat.lt_of_le_of_lt (Nat.zero_le _) G.hi
  generalize hF : pot P R.length sl + R.length + 1 = F at eI
  have F4 : F ≤ 5000 := by rw [← hF, rl]; omega
  generalize ins P R sl a = X at eI q
  obtain ⟨LL, PP⟩ := X
  have lp := insG_len F sl a 0 LL PP eI
  simp only [F_insert, st8]
  try dsimp only
  rw [e_seq]
  try simp only [e_var, e_C, e_op, e_neg, e_isN, e_notN, e_and, e_or, e_not, e_test, e_tAnd, e_tOr, e_tNot, e_tYes, e_if, e_aNil, e_aCons, e_tup, e_lst, e_lstN, e_len0, e_len1, e_len2, e_len3, e_len4, e_len5, e_cb, e_on1, e_on2, e_onI, e_onB, e_onO, e_onO0, e_onOO, e_I0, e_I, e_add, e_addT, e_addS, e_addL, e_addLR, e_addRL, e_addRR, e_mul, e_mulL, e_mulT, e_rev, e_revT, e_ix, e_eqI, e_eqS, e_eqB, e_neI, e_neS, e_neB, e_ltI, e_chain, e_len, e_abs, e_2I, e_tuple1, e_tuple2, e_tuple3, e_listT, e_listN, e_allR, e_seqT, e_seqK, e_seqL, e_isi, e_isB, e_notB, e_truth, e_next, e_drop, e_ret, e_retN, e_ifS, e_set, e_asg, e_par, e_nm, e_gsN, e_gsC, e_gTpK, e_gTpL, e_sum, e_maxL, e_minL, e_maxDef, e_int, e_intB, e_aug, e_on3, e_par3, e_newK, e_getK, e_keyI, e_keyS, e_inK, e_ninK, e_putK, e_lenK, e_lstS, e_seqX, e_gTpT, e_oN, e_oS, e_sl, e_slT, e_slL, e_finT, e_finN, e_index, e_idxT, e_idxL, e_mIx, e_ixST, e_ixSL, e_mtL, e_w, e_w1, e_w2, e_wE, e_wZ, e_itK, e_itT, e_itL, e_itT2, e_itL2, e_lc, e_for, e_wipe0, e_wipe, e_okI, e_okR, e_gSb, List.getElem?_cons_zero, List.getElem?_cons_succ, List.set_cons_zero, List.set_cons_succ]
  refine row_in ?_
  try simp only [e_var, e_C, e_op, e_neg, e_isN, e_notN, e_and, e_or, e_not, e_test, e_tAnd, e_tOr, e_tNot, e_tYes, e_if, e_aNil, e_aCons, e_tup, e_lst, e_lstN, e_len0, e_len1, e_len2, e_len3, e_len4, e_len5, e_cb, e_on1, e_on2, e_onI, e_onB, e_onO, e_onO0, e_onOO, e_I0, e_I, e_add, e_addT, e_addS, e_addL, e_addLR, e_addRL, e_addRR, e_mul, e_mulL, e_mulT, e_rev, e_revT, e_ix, e_eqI, e_eqS, e_eqB, e_neI, e_neS, e_neB, e_ltI, e_chain, e_len, e_abs, e_2I, e_tuple1, e_tuple2, e_tuple3, e_listT, e_listN, e_allR, e_seqT, e_seqK, e_seqL, e_isi, e_isB, e_notB, e_truth, e_next, e_drop, e_ret, e_retN, e_ifS, e_set, e_asg, e_par, e_nm, e_gsN, e_gsC, e_gTpK, e_gTpL, e_sum, e_maxL, e_minL, e_maxDef, e_int, e_intB, e_aug, e_on3, e_par3, e_newK, e_getK, e_keyI, e_keyS, e_inK, e_ninK, e_putK, e_lenK, e_lstS, e_seqX, e_gTpT, e_oN, e_oS, e_sl, e_slT, e_slL, e_finT, e_finN, e_index, e_idxT, e_idxL, e_mIx, e_ixST, e_ixSL, e_mtL, e_w, e_w1, e_w2, e_wE, e_wZ, e_itK, e_itT, e_itL, e_itT2, e_itL2, e_lc, e_for, e_wipe0, e_wipe, e_okI, e_okR, e_gSb, List.getElem?_cons_zero, List.getElem?_cons_succ, List.set_cons_zero, List.set_cons_succ]
  refine iteF' (decide_eq_false fun z => by obtain ⟨s, hs⟩ := mem_lay.mp z; exact G.fr s hs) ?_
  try dsimp only
  rw [e_seq]
  try simp only [e_var, e_C, e_op, e_neg, e_isN, e_notN, e_and, e_or, e_not, e_test, e_tAnd, e_tOr, e_tNot, e_tYes, e_if, e_aNil, e_aCons, e_tup, e_lst, e_lstN, e_len0, e_len1, e_len2, e_len3, e_len4, e_len5, e_cb, e_on1, e_on2, e_onI, e_onB, e_onO, e_onO0, e_onOO, e_I0, e_I, e_add, e_addT, e_addS, e_addL, e_addLR, e_addRL, e_addRR, e_mul, e_mulL, e_mulT, e_rev, e_revT, e_ix, e_eqI, e_eqS, e_eqB, e_neI, e_neS, e_neB, e_ltI, e_chain, e_len, e_abs, e_2I, e_tuple1, e_tuple2, e_tuple3, e_listT, e_listN, e_allR, e_seqT, e_seqK, e_seqL, e_isi, e_isB, e_notB, e_truth, e_next, e_drop, e_ret, e_retN, e_ifS, e_set, e_asg, e_par, e_nm, e_gsN, e_gsC, e_gTpK, e_gTpL, e_sum, e_maxL, e_minL, e_maxDef, e_int, e_intB, e_aug, e_on3, e_par3, e_newK, e_getK, e_keyI, e_keyS, e_inK, e_ninK, e_putK, e_lenK, e_lstS, e_seqX, e_gTpT, e_oN, e_oS, e_sl, e_slT, e_slL, e_finT, e_finN, e_index, e_idxT, e_idxL, e_mIx, e_ixST, e_ixSL, e_mtL, e_w, e_w1, e_w2, e_wE, e_wZ, e_itK, e_itT, e_itL, e_itT2, e_itL2, e_lc, e_for, e_wipe0, e_wipe, e_okI, e_okR, e_gSb, List.getElem?_cons_zero, List.getElem?_cons_succ, List.set_cons_zero, List.set_cons_succ]
  refine nin_row ?_
  try simp only [e_var, e_C, e_op, e_neg, e_isN, e_notN, e_and, e_or, e_not, e_test, e_tAnd, e_tOr, e_tNot, e_tYes, e_if, e_aNil, e_aCons, e_tup, e_lst, e_lstN, e_len0, e_len1, e_len2, e_len3, e_len4, e_len5, e_cb, e_on1, e_on2, e_onI, e_onB, e_onO, e_onO0, e_onOO, e_I0, e_I, e_add, e_addT, e_addS, e_addL, e_addLR, e_addRL, e_addRR, e_mul, e_mulL, e_mulT, e_rev, e_revT, e_ix, e_eqI, e_eqS, e_eqB, e_neI, e_neS, e_neB, e_ltI, e_chain, e_len, e_abs, e_2I, e_tuple1, e_tuple2, e_tuple3, e_listT, e_listN, e_allR, e_seqT, e_seqK, e_seqL, e_isi, e_isB, e_notB, e_truth, e_next, e_drop, e_ret, e_retN, e_ifS, e_set, e_asg, e_par, e_nm, e_gsN, e_gsC, e_gTpK, e_gTpL, e_sum, e_maxL, e_minL, e_maxDef, e_int, e_intB, e_aug, e_on3, e_par3, e_newK, e_getK, e_keyI, e_keyS, e_inK, e_ninK, e_putK, e_lenK, e_lstS, e_seqX, e_gTpT, e_oN, e_oS, e_sl, e_slT, e_slL, e_finT, e_finN, e_index, e_idxT, e_idxL, e_mIx, e_ixST, e_ixSL, e_mtL, e_w, e_w1, e_w2, e_wE, e_wZ, e_itK, e_itT, e_itL, e_itT2, e_itL2, e_lc, e_for, e_wipe0, e_wipe, e_okI, e_okR, e_gSb, List.getElem?_cons_zero, List.getElem?_cons_succ, List.set_cons_zero, List.set_cons_succ]
  refine iteF' ?_ ?_
  · obtain ⟨t, lt, e⟩ := G.room
    rw [decide_eq_true (List.mem_of_getElem? e)]
    rfl
  try dsimp only
  rw [e_seq]
  try simp only [e_var, e_C, e_op, e_neg, e_isN, e_notN, e_and, e_or, e_not, e_test, e_tAnd, e_tOr, e_tNot, e_tYes, e_if, e_aNil, e_aCons, e_tup, e_lst, e_lstN, e_len0, e_len1, e_len2, e_len3, e_len4, e_len5, e_cb, e_on1, e_on2, e_onI, e_onB, e_onO, e_onO0, e_onOO, e_I0, e_I, e_add, e_addT, e_addS, e_addL, e_addLR, e_addRL, e_addRR, e_mul, e_mulL, e_mulT, e_rev, e_revT, e_ix, e_eqI, e_eqS, e_eqB, e_neI, e_neS, e_neB, e_ltI, e_chain, e_len, e_abs, e_2I, e_tuple1, e_tuple2, e_tuple3, e_listT, e_listN, e_allR, e_seqT, e_seqK, e_seqL, e_isi, e_isB, e_notB, e_truth, e_next, e_drop, e_ret, e_retN, e_ifS, e_set, e_asg, e_par, e_nm, e_gsN, e_gsC, e_gTpK, e_gTpL, e_sum, e_maxL, e_minL, e_maxDef, e_int, e_intB, e_aug, e_on3, e_par3, e_newK, e_getK, e_keyI, e_keyS, e_inK, e_ninK, e_putK, e_lenK, e_lstS, e_seqX, e_gTpT, e_oN, e_oS, e_sl, e_slT, e_slL, e_finT, e_finN, e_index, e_idxT, e_idxL, e_mIx, e_ixST, e_ixSL, e_mtL, e_w, e_w1, e_w2, e_wE, e_wZ, e_itK, e_itT, e_itL, e_itT2, e_itL2, e_lc, e_for, e_wipe0, e_wipe, e_okI, e_okR, e_gSb, List.getElem?_cons_zero, List.getElem?_cons_succ, List.set_cons_zero, List.set_cons_succ]
  try dsimp only
  rw [e_seq]
  try simp only [e_var, e_C, e_op, e_neg, e_isN, e_notN, e_and, e_or, e_not, e_test, e_tAnd, e_tOr, e_tNot, e_tYes, e_if, e_aNil, e_aCons, e_tup, e_lst, e_lstN, e_len0, e_len1, e_len2, e_len3, e_len4, e_len5, e_cb, e_on1, e_on2, e_onI, e_onB, e_onO, e_onO0, e_onOO, e_I0, e_I, e_add, e_addT, e_addS, e_addL, e_addLR, e_addRL, e_addRR, e_mul, e_mulL, e_mulT, e_rev, e_revT, e_ix, e_eqI, e_eqS, e_eqB, e_neI, e_neS, e_neB, e_ltI, e_chain, e_len, e_abs, e_2I, e_tuple1, e_tuple2, e_tuple3, e_listT, e_listN, e_allR, e_seqT, e_seqK, e_seqL, e_isi, e_isB, e_notB, e_truth, e_next, e_drop, e_ret, e_retN, e_ifS, e_set, e_asg, e_par, e_nm, e_gsN, e_gsC, e_gTpK, e_gTpL, e_sum, e_maxL, e_minL, e_maxDef, e_int, e_intB, e_aug, e_on3, e_par3, e_newK, e_getK, e_keyI, e_keyS, e_inK, e_ninK, e_putK, e_lenK, e_lstS, e_seqX, e_gTpT, e_oN, e_oS, e_sl, e_slT, e_slL, e_finT, e_finN, e_index, e_idxT, e_idxL, e_mIx, e_ixST, e_ixSL, e_mtL, e_w, e_w1, e_w2, e_wE, e_wZ, e_itK, e_itT, e_itL, e_itT2, e_itL2, e_lc, e_for, e_wipe0, e_wipe, e_okI, e_okR, e_gSb, List.getElem?_cons_zero, List.getElem?_cons_succ, List.set_cons_zero, List.set_cons_succ, List.length_append]
  try dsimp only
  rw [e_seq]
  try simp only [e_var, e_C, e_op, e_neg, e_isN, e_notN, e_and, e_or, e_not, e_test, e_tAnd, e_tOr, e_tNot, e_tYes, e_if, e_aNil, e_aCons, e_tup, e_lst, e_lstN, e_len0, e_len1, e_len2, e_len3, e_len4, e_len5, e_cb, e_on1, e_on2, e_onI, e_onB, e_onO, e_onO0, e_onOO, e_I0, e_I, e_add, e_addT, e_addS, e_addL, e_addLR, e_addRL, e_addRR, e_mul, e_mulL, e_mulT, e_rev, e_revT, e_ix, e_eqI, e_eqS, e_eqB, e_neI, e_neS, e_neB, e_ltI, e_chain, e_len, e_abs, e_2I, e_tuple1, e_tuple2, e_tuple3, e_listT, e_listN, e_allR, e_seqT, e_seqK, e_seqL, e_isi, e_isB, e_notB, e_truth, e_next, e_drop, e_ret, e_retN, e_ifS, e_set, e_asg, e_par, e_nm, e_gsN, e_gsC, e_gTpK, e_gTpL, e_sum, e_maxL, e_minL, e_maxDef, e_int, e_intB, e_aug, e_on3, e_par3, e_newK, e_getK, e_keyI, e_keyS, e_inK, e_ninK, e_putK, e_lenK, e_lstS, e_seqX, e_gTpT, e_oN, e_oS, e_sl, e_slT, e_slL, e_finT, e_finN, e_index, e_idxT, e_idxL, e_mIx, e_ixST, e_ixSL, e_mtL, e_w, e_w1, e_w2, e_wE, e_wZ, e_itK, e_itT, e_itL, e_itT2, e_itL2, e_lc, e_for, e_wipe0, e_wipe, e_okI, e_okR, e_gSb, List.getElem?_cons_zero, List.getElem?_cons_succ, List.set_cons_zero, List.set_cons_succ]
  try dsimp only
  rw [e_seq]
  try simp only [e_var, e_C, e_op, e_neg, e_isN, e_notN, e_and, e_or, e_not, e_test, e_tAnd, e_tOr, e_tNot, e_tYes, e_if, e_aNil, e_aCons, e_tup, e_lst, e_lstN, e_len0, e_len1, e_len2, e_len3, e_len4, e_len5, e_cb, e_on1, e_on2, e_onI, e_onB, e_onO, e_onO0, e_onOO, e_I0, e_I, e_add, e_addT, e_addS, e_addL, e_addLR, e_addRL, e_addRR, e_mul, e_mulL, e_mulT, e_rev, e_revT, e_ix, e_eqI, e_eqS, e_eqB, e_neI, e_neS, e_neB, e_ltI, e_chain, e_len, e_abs, e_2I, e_tuple1, e_tuple2, e_tuple3, e_listT, e_listN, e_allR, e_seqT, e_seqK, e_seqL, e_isi, e_isB, e_notB, e_truth, e_next, e_drop, e_ret, e_retN, e_ifS, e_set, e_asg, e_par, e_nm, e_gsN, e_gsC, e_gTpK, e_gTpL, e_sum, e_maxL, e_minL, e_maxDef, e_int, e_intB, e_aug, e_on3, e_par3, e_newK, e_getK, e_keyI, e_keyS, e_inK, e_ninK, e_putK, e_lenK, e_lstS, e_seqX, e_gTpT, e_oN, e_oS, e_sl, e_slT, e_slL, e_finT, e_finN, e_index, e_idxT, e_idxL, e_mIx, e_ixST, e_ixSL, e_mtL, e_w, e_w1, e_w2, e_wE, e_wZ, e_itK, e_itT, e_itL, e_itT2, e_itL2, e_lc, e_for, e_wipe0, e_wipe, e_okI, e_okR, e_gSb, List.getElem?_cons_zero, List.getElem?_cons_succ, List.set_cons_zero, List.set_cons_succ, S.p_at G.ha, at0]
  have s0 := S.s_at G.ha n0
  have s0' : atI ((P.getD a []).map D.int) 0 = some (.int (pr P a 0 : Nat)) := s0
  try simp only [e_var, e_C, e_op, e_neg, e_isN, e_notN, e_and, e_or, e_not, e_test, e_tAnd, e_tOr, e_tNot, e_tYes, e_if, e_aNil, e_aCons, e_tup, e_lst, e_lstN, e_len0, e_len1, e_len2, e_len3, e_len4, e_len5, e_cb, e_on1, e_on2, e_onI, e_onB, e_onO, e_onO0, e_onOO, e_I0, e_I, e_add, e_addT, e_addS, e_addL, e_addLR, e_addRL, e_addRR, e_mul, e_mulL, e_mulT, e_rev, e_revT, e_ix, e_eqI, e_eqS, e_eqB, e_neI, e_neS, e_neB, e_ltI, e_chain, e_len, e_abs, e_2I, e_tuple1, e_tuple2, e_tuple3, e_listT, e_listN, e_allR, e_seqT, e_seqK, e_seqL, e_isi, e_isB, e_notB, e_truth, e_next, e_drop, e_ret, e_retN, e_ifS, e_set, e_asg, e_par, e_nm, e_gsN, e_gsC, e_gTpK, e_gTpL, e_sum, e_maxL, e_minL, e_maxDef, e_int, e_intB, e_aug, e_on3, e_par3, e_newK, e_getK, e_keyI, e_keyS, e_inK, e_ninK, e_putK, e_lenK, e_lstS, e_seqX, e_gTpT, e_oN, e_oS, e_sl, e_slT, e_slL, e_finT, e_finN, e_index, e_idxT, e_idxL, e_mIx, e_ixST, e_ixSL, e_mtL, e_w, e_w1, e_w2, e_wE, e_wZ, e_itK, e_itT, e_itL, e_itT2, e_itL2, e_lc, e_for, e_wipe0, e_wipe, e_okI, e_okR, e_gSb, List.getElem?_cons_zero, List.getElem?_cons_succ, List.set_cons_zero, List.set_cons_succ, s0']
  have e1 : st ++ [O.lst (sl.map D.int)] ++ [O.lst []] = st ++ [O.lst (sl.map D.int), O.lst (([] : List (Nat × Nat)).map pairN)] := by simp
  have e2 : st.length + [O.lst (sl.map D.int)].length = st.length + 1 := rfl
  rw [e1, e2]
  try dsimp only
  rw [e_seq]
  refine s_while (fun f r st' => ∃ (sl' : List Int) (b i : Nat) (pre p : List (Nat × Nat)), Go m n P sl' b i ∧ insG P R f sl' b i = some (LL, p) ∧ pre ++ p = PP ∧
      r = [some (.tup (P.map rowD)), some (.tup (R.map rowsD)), some (.tup (sl.map D.int)), some (.int (a : Nat)), some (.ref st.length), some (.ref (st.length + 1)), some (.int (b : Nat)), some (.int (pr P b i : Nat))] ∧ st' = st ++ [O.lst (sl'.map D.int), O.lst (pre.map pairN)]) F ⟨sl, a, 0, [], PP, G, eI, rfl, rfl, rfl⟩ ?_
  rintro f r st' N hN ⟨sl', b, i, pre, p, G', eG, eP, rfl, rfl⟩
  have ls := (S.pr_at G'.ha G'.hi).2
  have lsl : pr P b i < sl'.length := by rw [G'.g.lay.len]; exact ls
  have lpre : pre.length ≤ 5000 := by
    have := congrArg List.length eP
    rw [List.length_append] at this
    omega
  cases f with
  | zero => cases eG
  | succ f =>
    rcases G'.g.lay.either ls with e | ⟨k, tk⟩
    · rw [insG_free e] at eG
      cases eG
      try simp only [e_var, e_C, e_op, e_neg, e_isN, e_notN, e_and, e_or, e_not, e_test, e_tAnd, e_tOr, e_tNot, e_tYes, e_if, e_aNil, e_aCons, e_tup, e_lst, e_lstN, e_len0, e_len1, e_len2, e_len3, e_len4, e_len5, e_cb, e_on1, e_on2, e_onI, e_onB, e_onO, e_onO0, e_onOO, e_I0, e_I, e_add, e_addT, e_addS, e_addL, e_addLR, e_addRL, e_addRR, e_mul, e_mulL, e_mulT, e_rev, e_revT, e_ix, e_eqI, e_eqS, e_eqB, e_neI, e_neS, e_neB, e_ltI, e_chain, e_len, e_abs, e_2I, e_tuple1, e_tuple2, e_tuple3, e_listT, e_listN, e_allR, e_seqT, e_seqK, e_seqL, e_isi, e_isB, e_notB, e_truth, e_next, e_drop, e_ret, e_retN, e_ifS, e_set, e_asg, e_par, e_nm, e_gsN, e_gsC, e_gTpK, e_gTpL, e_sum, e_maxL, e_minL, e_maxDef, e_int, e_intB, e_aug, e_on3, e_par3, e_newK, e_getK, e_keyI, e_keyS, e_inK, e_ninK, e_putK, e_lenK, e_lstS, e_seqX, e_gTpT, e_oN, e_oS, e_sl, e_slT, e_slL, e_finT, e_finN, e_index, e_idxT, e_idxL, e_mIx, e_ixST, e_ixSL, e_mtL, e_w, e_w1, e_w2, e_wE, e_wZ, e_itK, e_itT, e_itL, e_itT2, e_itL2, e_lc, e_for, e_wipe0, e_wipe, e_okI, e_okR, e_gSb, List.getElem?_cons_zero, List.getElem?_cons_succ, List.set_cons_zero, List.set_cons_succ, seq_ref ownA, lay_at e, decide_true, Bool.not_true]
      refine iteF ?_
      try dsimp only
      rw [e_seq]
      try simp only [e_var, e_C, e_op, e_neg, e_isN, e_notN, e_and, e_or, e_not, e_test, e_tAnd, e_tOr, e_tNot, e_tYes, e_if, e_aNil, e_aCons, e_tup, e_lst, e_lstN, e_len0, e_len1, e_len2, e_len3, e_len4, e_len5, e_cb, e_on1, e_on2, e_onI, e_onB, e_onO, e_onO0, e_onOO, e_I0, e_I, e_add, e_addT, e_addS, e_addL, e_addLR, e_addRL, e_addRR, e_mul, e_mulL, e_mulT, e_rev, e_revT, e_ix, e_eqI, e_eqS, e_eqB, e_neI, e_neS, e_neB, e_ltI, e_chain, e_len, e_abs, e_2I, e_tuple1, e_tuple2, e_tuple3, e_listT, e_listN, e_allR, e_seqT, e_seqK, e_seqL, e_isi, e_isB, e_notB, e_truth, e_next, e_drop, e_ret, e_retN, e_ifS, e_set, e_asg, e_par, e_nm, e_gsN, e_gsC, e_gTpK, e_gTpL, e_sum, e_maxL, e_minL, e_maxDef, e_int, e_intB, e_aug, e_on3, e_par3, e_newK, e_getK, e_keyI, e_keyS, e_inK, e_ninK, e_putK, e_lenK, e_lstS, e_seqX, e_gTpT, e_oN, e_oS, e_sl, e_slT, e_slL, e_finT, e_finN, e_index, e_idxT, e_idxL, e_mIx, e_ixST, e_ixSL, e_mtL, e_w, e_w1, e_w2, e_wE, e_wZ, e_itK, e_itT, e_itL, e_itT2, e_itL2, e_lc, e_for, e_wipe0, e_wipe, e_okI, e_okR, e_gSb, List.getElem?_cons_zero, List.getElem?_cons_succ, List.set_cons_zero, List.set_cons_succ, seq_ref ownA, setS_ref ownA, List.length_map, ixN_lt lsl, putA]
      try dsimp only
      rw [e_seq]
      try simp only [e_var, e_C, e_op, e_neg, e_isN, e_notN, e_and, e_or, e_not, e_test, e_tAnd, e_tOr, e_tNot, e_tYes, e_if, e_aNil, e_aCons, e_tup, e_lst, e_lstN, e_len0, e_len1, e_len2, e_len3, e_len4, e_len5, e_cb, e_on1, e_on2, e_onI, e_onB, e_onO, e_onO0, e_onOO, e_I0, e_I, e_add, e_addT, e_addS, e_addL, e_addLR, e_addRL, e_addRR, e_mul, e_mulL, e_mulT, e_rev, e_revT, e_ix, e_eqI, e_eqS, e_eqB, e_neI, e_neS, e_neB, e_ltI, e_chain, e_len, e_abs, e_2I, e_tuple1, e_tuple2, e_tuple3, e_listT, e_listN, e_allR, e_seqT, e_seqK, e_seqL, e_isi, e_isB, e_notB, e_truth, e_next, e_drop, e_ret, e_retN, e_ifS, e_set, e_asg, e_par, e_nm, e_gsN, e_gsC, e_gTpK, e_gTpL, e_sum, e_maxL, e_minL, e_maxDef, e_int, e_intB, e_aug, e_on3, e_par3, e_newK, e_getK, e_keyI, e_keyS, e_inK, e_ninK, e_putK, e_lenK, e_lstS, e_seqX, e_gTpT, e_oN, e_oS, e_sl, e_slT, e_slL, e_finT, e_finN, e_index, e_idxT, e_idxL, e_mIx, e_ixST, e_ixSL, e_mtL, e_w, e_w1, e_w2, e_wE, e_wZ, e_itK, e_itT, e_itL, e_itT2, e_itL2, e_lc, e_for, e_wipe0, e_wipe, e_okI, e_okR, e_gSb, List.getElem?_cons_zero, List.getElem?_cons_succ, List.set_cons_zero, List.set_cons_succ]
      refine ⟨by unfold LstD; simp only [ownB], append_ref ownB (by rw [List.length_map]; omega) ?_⟩
      rw [putB]
      try simp only [e_var, e_C, e_op, e_neg, e_isN, e_notN, e_and, e_or, e_not, e_test, e_tAnd, e_tOr, e_tNot, e_tYes, e_if, e_aNil, e_aCons, e_tup, e_lst, e_lstN, e_len0, e_len1, e_len2, e_len3, e_len4, e_len5, e_cb, e_on1, e_on2, e_onI, e_onB, e_onO, e_onO0, e_onOO, e_I0, e_I, e_add, e_addT, e_addS, e_addL, e_addLR, e_addRL, e_addRR, e_mul, e_mulL, e_mulT, e_rev, e_revT, e_ix, e_eqI, e_eqS, e_eqB, e_neI, e_neS, e_neB, e_ltI, e_chain, e_len, e_abs, e_2I, e_tuple1, e_tuple2, e_tuple3, e_listT, e_listN, e_allR, e_seqT, e_seqK, e_seqL, e_isi, e_isB, e_notB, e_truth, e_next, e_drop, e_ret, e_retN, e_ifS, e_set, e_asg, e_par, e_nm, e_gsN, e_gsC, e_gTpK, e_gTpL, e_sum, e_maxL, e_minL, e_maxDef, e_int, e_intB, e_aug, e_on3, e_par3, e_newK, e_getK, e_keyI, e_keyS, e_inK, e_ninK, e_putK, e_lenK, e_lstS, e_seqX, e_gTpT, e_oN, e_oS, e_sl, e_slT, e_slL, e_finT, e_finN, e_index, e_idxT, e_idxL, e_mIx, e_ixST, e_ixSL, e_mtL, e_w, e_w1, e_w2, e_wE, e_wZ, e_itK, e_itT, e_itL, e_itT2, e_itL2, e_lc, e_for, e_wipe0, e_wipe, e_okI, e_okR, e_gSb, List.getElem?_cons_zero, List.getElem?_cons_succ, List.set_cons_zero, List.set_cons_succ, seq_ref ownA, seq_ref ownB]
      refine rt_drop rfl ?_ (fun i o h => .inl h) ?_
      · have z1 := clos_ints st.length (sl'.set (pr P b i) (b : Int))
        rw [List.map_set] at z1
        have z2 := clos_pairs st.length PP
        rw [← eP, List.map_append] at z2
        simp only [DL.clo, clos, Bool.and_true]
        rw [z1]
        exact z2
      · have z := q
        rw [← eP] at z
        unfold rowD pathD at z
        rw [List.map_set, List.map_append] at z
        exact z
    · have hk := (G'.g.lay.key tk).1
      rw [insG_taken tk] at eG
      have ne : k ≠ b := fun z => by subst z; exact G'.fr _ tk
      have bn := S.bt_not ls hk G'.ha ne
      try simp only [e_var, e_C, e_op, e_neg, e_isN, e_notN, e_and, e_or, e_not, e_test, e_tAnd, e_tOr, e_tNot, e_tYes, e_if, e_aNil, e_aCons, e_tup, e_lst, e_lstN, e_len0, e_len1, e_len2, e_len3, e_len4, e_len5, e_cb, e_on1, e_on2, e_onI, e_onB, e_onO, e_onO0, e_onOO, e_I0, e_I, e_add, e_addT, e_addS, e_addL, e_addLR, e_addRL, e_addRR, e_mul, e_mulL, e_mulT, e_rev, e_revT, e_ix, e_eqI, e_eqS, e_eqB, e_neI, e_neS, e_neB, e_ltI, e_chain, e_len, e_abs, e_2I, e_tuple1, e_tuple2, e_tuple3, e_listT, e_listN, e_allR, e_seqT, e_seqK, e_seqL, e_isi, e_isB, e_notB, e_truth, e_next, e_drop, e_ret, e_retN, e_ifS, e_set, e_asg, e_par, e_nm, e_gsN, e_gsC, e_gTpK, e_gTpL, e_sum, e_maxL, e_minL, e_maxDef, e_int, e_intB, e_aug, e_on3, e_par3, e_newK, e_getK, e_keyI, e_keyS, e_inK, e_ninK, e_putK, e_lenK, e_lstS, e_seqX, e_gTpT, e_oN, e_oS, e_sl, e_slT, e_slL, e_finT, e_finN, e_index, e_idxT, e_idxL, e_mIx, e_ixST, e_ixSL, e_mtL, e_w, e_w1, e_w2, e_wE, e_wZ, e_itK, e_itT, e_itL, e_itT2, e_itL2, e_lc, e_for, e_wipe0, e_wipe, e_okI, e_okR, e_gSb, List.getElem?_cons_zero, List.getElem?_cons_succ, List.set_cons_zero, List.set_cons_succ, seq_ref ownA, tk.d, S.r_at ls, S.t_at ls hk]
      refine iteT' (by rw [Bool.not_eq_true', decide_eq_false_iff_not]; omega) ?_
      try dsimp only
      rw [e_seq]
      try simp only [e_var, e_C, e_op, e_neg, e_isN, e_notN, e_and, e_or, e_not, e_test, e_tAnd, e_tOr, e_tNot, e_tYes, e_if, e_aNil, e_aCons, e_tup, e_lst, e_lstN, e_len0, e_len1, e_len2, e_len3, e_len4, e_len5, e_cb, e_on1, e_on2, e_onI, e_onB, e_onO, e_onO0, e_onOO, e_I0, e_I, e_add, e_addT, e_addS, e_addL, e_addLR, e_addRL, e_addRR, e_mul, e_mulL, e_mulT, e_rev, e_revT, e_ix, e_eqI, e_eqS, e_eqB, e_neI, e_neS, e_neB, e_ltI, e_chain, e_len, e_abs, e_2I, e_tuple1, e_tuple2, e_tuple3, e_listT, e_listN, e_allR, e_seqT, e_seqK, e_seqL, e_isi, e_isB, e_notB, e_truth, e_next, e_drop, e_ret, e_retN, e_ifS, e_set, e_asg, e_par, e_nm, e_gsN, e_gsC, e_gTpK, e_gTpL, e_sum, e_maxL, e_minL, e_maxDef, e_int, e_intB, e_aug, e_on3, e_par3, e_newK, e_getK, e_keyI, e_keyS, e_inK, e_ninK, e_putK, e_lenK, e_lstS, e_seqX, e_gTpT, e_oN, e_oS, e_sl, e_slT, e_slL, e_finT, e_finN, e_index, e_idxT, e_idxL, e_mIx, e_ixST, e_ixSL, e_mtL, e_w, e_w1, e_w2, e_wE, e_wZ, e_itK, e_itT, e_itL, e_itT2, e_itL2, e_lc, e_for, e_wipe0, e_wipe, e_okI, e_okR, e_gSb, List.getElem?_cons_zero, List.getElem?_cons_succ, List.set_cons_zero, List.set_cons_succ, seq_ref ownA, tk.d, S.r_at ls, S.t_at ls hk]
      refine nin_row ?_
      have eb : (!decide ((b : Int) ∈ (R.getD (pr P b i) []).getD k [])) = bt R (pr P b i) b k := by
        show (!bt R (pr P b i) k b) = _
        rw [bn, Bool.not_not]
      rw [eb]
      try simp only [e_var, e_C, e_op, e_neg, e_isN, e_notN, e_and, e_or, e_not, e_test, e_tAnd, e_tOr, e_tNot, e_tYes, e_if, e_aNil, e_aCons, e_tup, e_lst, e_lstN, e_len0, e_len1, e_len2, e_len3, e_len4, e_len5, e_cb, e_on1, e_on2, e_onI, e_onB, e_onO, e_onO0, e_onOO, e_I0, e_I, e_add, e_addT, e_addS, e_addL, e_addLR, e_addRL, e_addRR, e_mul, e_mulL, e_mulT, e_rev, e_revT, e_ix, e_eqI, e_eqS, e_eqB, e_neI, e_neS, e_neB, e_ltI, e_chain, e_len, e_abs, e_2I, e_tuple1, e_tuple2, e_tuple3, e_listT, e_listN, e_allR, e_seqT, e_seqK, e_seqL, e_isi, e_isB, e_notB, e_truth, e_next, e_drop, e_ret, e_retN, e_ifS, e_set, e_asg, e_par, e_nm, e_gsN, e_gsC, e_gTpK, e_gTpL, e_sum, e_maxL, e_minL, e_maxDef, e_int, e_intB, e_aug, e_on3, e_par3, e_newK, e_getK, e_keyI, e_keyS, e_inK, e_ninK, e_putK, e_lenK, e_lstS, e_seqX, e_gTpT, e_oN, e_oS, e_sl, e_slT, e_slL, e_finT, e_finN, e_index, e_idxT, e_idxL, e_mIx, e_ixST, e_ixSL, e_mtL, e_w, e_w1, e_w2, e_wE, e_wZ, e_itK, e_itT, e_itL, e_itT2, e_itL2, e_lc, e_for, e_wipe0, e_wipe, e_okI, e_okR, e_gSb, List.getElem?_cons_zero, List.getElem?_cons_succ, List.set_cons_zero, List.set_cons_succ]
      by_cases bb : bt R (pr P b i) b k = true
      · rw [if_pos bb] at eG
        obtain ⟨⟨L2, p2⟩, h2, h3⟩ := Option.map_eq_some_iff.mp eG
        cases h3
        have G2 := G'.swap S tk
        have rka := S.rk_at hk ls
        refine iteT' bb ?_
        try dsimp only
        rw [e_seq]
        try simp only [e_var, e_C, e_op, e_neg, e_isN, e_notN, e_and, e_or, e_not, e_test, e_tAnd, e_tOr, e_tNot, e_tYes, e_if, e_aNil, e_aCons, e_tup, e_lst, e_lstN, e_len0, e_len1, e_len2, e_len3, e_len4, e_len5, e_cb, e_on1, e_on2, e_onI, e_onB, e_onO, e_onO0, e_onOO, e_I0, e_I, e_add, e_addT, e_addS, e_addL, e_addLR, e_addRL, e_addRR, e_mul, e_mulL, e_mulT, e_rev, e_revT, e_ix, e_eqI, e_eqS, e_eqB, e_neI, e_neS, e_neB, e_ltI, e_chain, e_len, e_abs, e_2I, e_tuple1, e_tuple2, e_tuple3, e_listT, e_listN, e_allR, e_seqT, e_seqK, e_seqL, e_isi, e_isB, e_notB, e_truth, e_next, e_drop, e_ret, e_retN, e_ifS, e_set, e_asg, e_par, e_nm, e_gsN, e_gsC, e_gTpK, e_gTpL, e_sum, e_maxL, e_minL, e_maxDef, e_int, e_intB, e_aug, e_on3, e_par3, e_newK, e_getK, e_keyI, e_keyS, e_inK, e_ninK, e_putK, e_lenK, e_lstS, e_seqX, e_gTpT, e_oN, e_oS, e_sl, e_slT, e_slL, e_finT, e_finN, e_index, e_idxT, e_idxL, e_mIx, e_ixST, e_ixSL, e_mtL, e_w, e_w1, e_w2, e_wE, e_wZ, e_itK, e_itT, e_itL, e_itT2, e_itL2, e_lc, e_for, e_wipe0, e_wipe, e_okI, e_okR, e_gSb, List.getElem?_cons_zero, List.getElem?_cons_succ, List.set_cons_zero, List.set_cons_succ]
        refine ⟨by unfold LstD; simp only [ownB], append_ref ownB (by rw [List.length_map]; omega) ?_⟩
        rw [putB]
        try simp only [e_var, e_C, e_op, e_neg, e_isN, e_notN, e_and, e_or, e_not, e_test, e_tAnd, e_tOr, e_tNot, e_tYes, e_if, e_aNil, e_aCons, e_tup, e_lst, e_lstN, e_len0, e_len1, e_len2, e_len3, e_len4, e_len5, e_cb, e_on1, e_on2, e_onI, e_onB, e_onO, e_onO0, e_onOO, e_I0, e_I, e_add, e_addT, e_addS, e_addL, e_addLR, e_addRL, e_addRR, e_mul, e_mulL, e_mulT, e_rev, e_revT, e_ix, e_eqI, e_eqS, e_eqB, e_neI, e_neS, e_neB, e_ltI, e_chain, e_len, e_abs, e_2I, e_tuple1, e_tuple2, e_tuple3, e_listT, e_listN, e_allR, e_seqT, e_seqK, e_seqL, e_isi, e_isB, e_notB, e_truth, e_next, e_drop, e_ret, e_retN, e_ifS, e_set, e_asg, e_par, e_nm, e_gsN, e_gsC, e_gTpK, e_gTpL, e_sum, e_maxL, e_minL, e_maxDef, e_int, e_intB, e_aug, e_on3, e_par3, e_newK, e_getK, e_keyI, e_keyS, e_inK, e_ninK, e_putK, e_lenK, e_lstS, e_seqX, e_gTpT, e_oN, e_oS, e_sl, e_slT, e_slL, e_finT, e_finN, e_index, e_idxT, e_idxL, e_mIx, e_ixST, e_ixSL, e_mtL, e_w, e_w1, e_w2, e_wE, e_wZ, e_itK, e_itT, e_itL, e_itT2, e_itL2, e_lc, e_for, e_wipe0, e_wipe, e_okI, e_okR, e_gSb, List.getElem?_cons_zero, List.getElem?_cons_succ, List.set_cons_zero, List.set_cons_succ, seq_ref ownA, tk.d, setS_ref ownA, List.length_map, ixN_lt lsl, putA]
        refine ⟨rfl, ?_⟩
        try simp only [e_var, e_C, e_op, e_neg, e_isN, e_notN, e_and, e_or, e_not, e_test, e_tAnd, e_tOr, e_tNot, e_tYes, e_if, e_aNil, e_aCons, e_tup, e_lst, e_lstN, e_len0, e_len1, e_len2, e_len3, e_len4, e_len5, e_cb, e_on1, e_on2, e_onI, e_onB, e_onO, e_onO0, e_onOO, e_I0, e_I, e_add, e_addT, e_addS, e_addL, e_addLR, e_addRL, e_addRR, e_mul, e_mulL, e_mulT, e_rev, e_revT, e_ix, e_eqI, e_eqS, e_eqB, e_neI, e_neS, e_neB, e_ltI, e_chain, e_len, e_abs, e_2I, e_tuple1, e_tuple2, e_tuple3, e_listT, e_listN, e_allR, e_seqT, e_seqK, e_seqL, e_isi, e_isB, e_notB, e_truth, e_next, e_drop, e_ret, e_retN, e_ifS, e_set, e_asg, e_par, e_nm, e_gsN, e_gsC, e_gTpK, e_gTpL, e_sum, e_maxL, e_minL, e_maxDef, e_int, e_intB, e_aug, e_on3, e_par3, e_newK, e_getK, e_keyI, e_keyS, e_inK, e_ninK, e_putK, e_lenK, e_lstS, e_seqX, e_gTpT, e_oN, e_oS, e_sl, e_slT, e_slL, e_finT, e_finN, e_index, e_idxT, e_idxL, e_mIx, e_ixST, e_ixSL, e_mtL, e_w, e_w1, e_w2, e_wE, e_wZ, e_itK, e_itT, e_itL, e_itT2, e_itL2, e_lc, e_for, e_wipe0, e_wipe, e_okI, e_okR, e_gSb, List.getElem?_cons_zero, List.getElem?_cons_succ, List.set_cons_zero, List.set_cons_succ, S.p_at hk, intsD_ints, rka.2.2, true_and]
        have z := S.s_at hk G2.hi
        have e5 : ((rk P k (pr P b i) : Nat) : Int) + 1 = ((rk P k (pr P b i) + 1 : Nat) : Int) := by omega
        rw [e5, z]
        try simp only [e_var, e_C, e_op, e_neg, e_isN, e_notN, e_and, e_or, e_not, e_test, e_tAnd, e_tOr, e_tNot, e_tYes, e_if, e_aNil, e_aCons, e_tup, e_lst, e_lstN, e_len0, e_len1, e_len2, e_len3, e_len4, e_len5, e_cb, e_on1, e_on2, e_onI, e_onB, e_onO, e_onO0, e_onOO, e_I0, e_I, e_add, e_addT, e_addS, e_addL, e_addLR, e_addRL, e_addRR, e_mul, e_mulL, e_mulT, e_rev, e_revT, e_ix, e_eqI, e_eqS, e_eqB, e_neI, e_neS, e_neB, e_ltI, e_chain, e_len, e_abs, e_2I, e_tuple1, e_tuple2, e_tuple3, e_listT, e_listN, e_allR, e_seqT, e_seqK, e_seqL, e_isi, e_isB, e_notB, e_truth, e_next, e_drop, e_ret, e_retN, e_ifS, e_set, e_asg, e_par, e_nm, e_gsN, e_gsC, e_gTpK, e_gTpL, e_sum, e_maxL, e_minL, e_maxDef, e_int, e_intB, e_aug, e_on3, e_par3, e_newK, e_getK, e_keyI, e_keyS, e_inK, e_ninK, e_putK, e_lenK, e_lstS, e_seqX, e_gTpT, e_oN, e_oS, e_sl, e_slT, e_slL, e_finT, e_finN, e_index, e_idxT, e_idxL, e_mIx, e_ixST, e_ixSL, e_mtL, e_w, e_w1, e_w2, e_wE, e_wZ, e_itK, e_itT, e_itL, e_itT2, e_itL2, e_lc, e_for, e_wipe0, e_wipe, e_okI, e_okR, e_gSb, List.getElem?_cons_zero, List.getElem?_cons_succ, List.set_cons_zero, List.set_cons_succ]
        refine hN f _ _ (Nat.lt_succ_self _) (.inl ⟨sl'.set (pr P b i) (b : Int), k, rk P k (pr P b i) + 1, pre ++ [(b, pr P b i)], p2, G2, h2, by rw [List.append_assoc]; exact eP, rfl, ?_⟩)
        rw [List.map_set, List.map_append]
        rfl
      · rw [if_neg bb] at eG
        have G2 := G'.on S tk
        have rka := S.rk_at G'.ha ls
        have rkp := S.rk_pr G'.ha G'.hi
        refine iteF' (by simpa using bb) ?_
        try simp only [e_var, e_C, e_op, e_neg, e_isN, e_notN, e_and, e_or, e_not, e_test, e_tAnd, e_tOr, e_tNot, e_tYes, e_if, e_aNil, e_aCons, e_tup, e_lst, e_lstN, e_len0, e_len1, e_len2, e_len3, e_len4, e_len5, e_cb, e_on1, e_on2, e_onI, e_onB, e_onO, e_onO0, e_onOO, e_I0, e_I, e_add, e_addT, e_addS, e_addL, e_addLR, e_addRL, e_addRR, e_mul, e_mulL, e_mulT, e_rev, e_revT, e_ix, e_eqI, e_eqS, e_eqB, e_neI, e_neS, e_neB, e_ltI, e_chain, e_len, e_abs, e_2I, e_tuple1, e_tuple2, e_tuple3, e_listT, e_listN, e_allR, e_seqT, e_seqK, e_seqL, e_isi, e_isB, e_notB, e_truth, e_next, e_drop, e_ret, e_retN, e_ifS, e_set, e_asg, e_par, e_nm, e_gsN, e_gsC, e_gTpK, e_gTpL, e_sum, e_maxL, e_minL, e_maxDef, e_int, e_intB, e_aug, e_on3, e_par3, e_newK, e_getK, e_keyI, e_keyS, e_inK, e_ninK, e_putK, e_lenK, e_lstS, e_seqX, e_gTpT, e_oN, e_oS, e_sl, e_slT, e_slL, e_finT, e_finN, e_index, e_idxT, e_idxL, e_mIx, e_ixST, e_ixSL, e_mtL, e_w, e_w1, e_w2, e_wE, e_wZ, e_itK, e_itT, e_itL, e_itT2, e_itL2, e_lc, e_for, e_wipe0, e_wipe, e_okI, e_okR, e_gSb, List.getElem?_cons_zero, List.getElem?_cons_succ, List.set_cons_zero, List.set_cons_succ, S.p_at G'.ha, intsD_ints, rka.2.2, true_and, rkp]
        have z := S.s_at G'.ha G2.hi
        have e5 : ((i : Nat) : Int) + 1 = ((i + 1 : Nat) : Int) := by omega
        rw [e5, z]
        try simp only [e_var, e_C, e_op, e_neg, e_isN, e_notN, e_and, e_or, e_not, e_test, e_tAnd, e_tOr, e_tNot, e_tYes, e_if, e_aNil, e_aCons, e_tup, e_lst, e_lstN, e_len0, e_len1, e_len2, e_len3, e_len4, e_len5, e_cb, e_on1, e_on2, e_onI, e_onB, e_onO, e_onO0, e_onOO, e_I0, e_I, e_add, e_addT, e_addS, e_addL, e_addLR, e_addRL, e_addRR, e_mul, e_mulL, e_mulT, e_rev, e_revT, e_ix, e_eqI, e_eqS, e_eqB, e_neI, e_neS, e_neB, e_ltI, e_chain, e_len, e_abs, e_2I, e_tuple1, e_tuple2, e_tuple3, e_listT, e_listN, e_allR, e_seqT, e_seqK, e_seqL, e_isi, e_isB, e_notB, e_truth, e_next, e_drop, e_ret, e_retN, e_ifS, e_set, e_asg, e_par, e_nm, e_gsN, e_gsC, e_gTpK, e_gTpL, e_sum, e_maxL, e_minL, e_maxDef, e_int, e_intB, e_aug, e_on3, e_par3, e_newK, e_getK, e_keyI, e_keyS, e_inK, e_ninK, e_putK, e_lenK, e_lstS, e_seqX, e_gTpT, e_oN, e_oS, e_sl, e_slT, e_slL, e_finT, e_finN, e_index, e_idxT, e_idxL, e_mIx, e_ixST, e_ixSL, e_mtL, e_w, e_w1, e_w2, e_wE, e_wZ, e_itK, e_itT, e_itL, e_itT2, e_itL2, e_lc, e_for, e_wipe0, e_wipe, e_okI, e_okR, e_gSb, List.getElem?_cons_zero, List.getElem?_cons_succ, List.set_cons_zero, List.set_cons_succ]
        exact hN f _ _ (Nat.lt_succ_self _) (.inl ⟨sl', b, i + 1, pre, p, G2, eG, eP, rfl, rfl⟩)
end
end DL
namespace DL
open PySem PySem.Spec PyProof.Rows L2 LamX PySem.W SL
structure Hist (m n : Nat) (h : List Nat) : Prop where
  nd : h.Nodup
  lt : ∀ k ∈ h, k < m
  few : h.length ≤ n
def histD (h : List Nat) : D := .tup (h.map fun k : Nat => .int (k : Nat))
def layG (P : List (List Int)) (R : List (List (List Int))) (sl : List Int) (h : List Nat) : List Int := h.foldl (fun sl a => (ins P R sl a).1) sl
def emp (n : Nat) : List Int := List.replicate n (-1)
def layF (P : List (List Int)) (R : List (List (List Int))) (h : List Nat) : List Int := layG P R (emp R.length) h
section
variable {m n : Nat} {P : List (List Int)} {R : List (List (List Int))}
theorem emp_at {n s k : Nat} : ¬ At (emp n) s k := by
  unfold At emp
  rw [List.getElem?_replicate]
  split
  · intro z
    have := Option.some.inj z
    omega
  · intro z
    cases z
theorem emp_good (m n : Nat) (P : List (List Int)) : Good m n P (emp n) := by
  refine ⟨⟨by unfold emp; simp, fun x hx => ?_, fun s t k h _ => absurd h emp_at⟩, fun s k h => absurd h emp_at⟩
  unfold emp at hx
  rw [List.eq_of_mem_replicate hx]
  omega
theorem lay_room {sl : List Int} {q : List Nat} (L : Lay m n sl) (ks : ∀ s k, At sl s k → k ∈ q) (lt : q.length < n) : ∃ t, t < n ∧ sl[t]? = some (-1) := by
  apply Classical.byContradiction
  intro no
  have all : ∀ t, t < n → ∃ k, At sl t k := fun t ht => by
    rcases L.either ht with e | h
    · exact absurd ⟨t, ht, e⟩ no
    · exact h
  have nd : sl.Nodup := by
    refine List.pairwise_iff_getElem.mpr fun i j hi hj lt => ?_
    intro e
    rw [L.len] at hi hj
    obtain ⟨k, hk⟩ := all i hi
    have h2 : At sl j k := by
      unfold At at hk ⊢
      rw [List.getElem?_eq_getElem (by rw [L.len]; exact hj), ← e, ← hk, List.getElem?_eq_getElem (by rw [L.len]; exact hi)]
    have := L.inj _ _ _ hk h2
    omega
  have z := sub_len (ys := q.map fun k : Nat => (k : Int)) nd fun x hx => by
    obtain ⟨i, hi⟩ := List.mem_iff_getElem?.mp hx
    have li := (List.getElem?_eq_some_iff.mp hi).1
    rw [L.len] at li
    obtain ⟨k, hk⟩ := all i li
    have : x = (k : Int) := by
      unfold At at hk
      rw [hi] at hk
      exact Option.some.inj hk
    rw [this]
    exact List.mem_map.mpr ⟨k, ks _ _ hk, rfl⟩
  rw [List.length_map, L.len] at z
  omega
theorem step_go (S : Setg m n P R) {sl : List Int} {q : List Nat} {a : Nat} (g : Good m n P sl) (ks : ∀ k, (∃ s, At sl s k) ↔ k ∈ q) (ha : a < m) (na : a ∉ q) (lt : q.length < n) : Go m n P sl a 0 :=
  Go.start g ha (fun t h => na ((ks a).mp ⟨t, h⟩)) (lay_room g.lay (fun s k h => (ks k).mp ⟨s, h⟩) lt)
theorem step_good (S : Setg m n P R) {sl : List Int} {q : List Nat} {a : Nat} (G : Go m n P sl a 0) (ks : ∀ k, (∃ s, At sl s k) ↔ k ∈ q) : Good m n P (ins P R sl a).1 ∧ ∀ k, (∃ s, At (ins P R sl a).1 s k) ↔ k ∈ q ++ [a] := by
  have e := ins_eq S G
  obtain ⟨g, k2, _⟩ := insG_good S _ _ _ _ (ins P R sl a).1 (ins P R sl a).2 G e
  refine ⟨g, fun k => ?_⟩
  rw [k2, List.mem_append, List.mem_singleton, ks]
  exact ⟨fun h => h.elim .inr .inl, fun h => h.elim .inr .inl⟩
theorem layG_good (S : Setg m n P R) : ∀ (h q : List Nat) (sl : List Int), Good m n P sl → (∀ k, (∃ s, At sl s k) ↔ k ∈ q) → Hist m n (q ++ h) → Good m n P (layG P R sl h) ∧ ∀ k, (∃ s, At (layG P R sl h) s k) ↔ k ∈ q ++ h
  | [], q, sl, g, ks, H => by
    rw [List.append_nil]
    exact ⟨g, ks⟩
  | a :: h, q, sl, g, ks, H => by
    have nd := H.nd
    rw [List.nodup_append] at nd
    have fw := H.few
    rw [List.length_append, List.length_cons] at fw
    have G := step_go S g ks (H.lt a (by simp)) (fun z => nd.2.2 a z a (by simp) rfl) (by omega)
    obtain ⟨g2, k2⟩ := step_good S G ks
    have z := layG_good S h (q ++ [a]) _ g2 k2 (by rw [List.append_assoc]; exact H)
    rw [List.append_assoc] at z
    exact z
theorem layF_good (S : Setg m n P R) {h : List Nat} (H : Hist m n h) : Good m n P (layF P R h) ∧ ∀ k, (∃ s, At (layF P R h) s k) ↔ k ∈ h := by
  have z := layG_good S h [] (emp R.length) (by rw [S.rl]; exact emp_good m n P) (fun k => ⟨fun ⟨s, hs⟩ => absurd hs emp_at, fun h => by cases h⟩) H
  exact z
theorem layG_app (sl : List Int) (a b : List Nat) : layG P R sl (a ++ b) = layG P R (layG P R sl a) b := by unfold layG; rw [List.foldl_append]
def g_layout : DRs := fun ds st Q => ∃ (m n : Nat) (P : List (List Int)) (R : List (List (List Int))) (h : List Nat), ds = [rowsD P, tabsD R, histD h] ∧ Setg m n P R ∧ m ≤ 60 ∧ n ≤ 60 ∧ 0 < n ∧ Hist m n h ∧ Q (rowD (layF P R h)) st
theorem ar_layout (ds : List D) (st : DSt) (Q : DK) (h : g_layout ds st Q) : ds.length = 3 := by
  obtain ⟨_, _, _, _, _, rfl, _⟩ := h
  rfl
theorem emp_map (n : Nat) : (List.replicate n [D.int (-1)]).flatten = (emp n).map D.int := by unfold emp; rw [rep_flat, List.map_replicate]
set_option maxHeartbeats 1000000 in
theorem sem_layout (ds : List D) (st : DSt) (Q : DK) (h : g_layout ds st Q) : F_layout_of g_insert { nx := fun _ st' => Rt st Q .non st', rt := Rt st Q } (startD 5 ds) st := by
  obtain ⟨m, n, P, R, h, rfl, S, m60, n60, n0, H, q⟩ := h
  have st5 : startD 5 [rowsD P, tabsD R, histD h] = [some (.tup (P.map rowD)), some (.tup (R.map rowsD)), some (.tup (h.map fun k : Nat => .int (k : Nat))), none, none] := rfl
  have rl := S.rl
  simp only [F_layout_of, st5]
  try dsimp only
  rw [e_seq]
  try simp only [e_var, e_C, e_op, e_neg, e_isN, e_notN, e_and, e_or, e_not, e_test, e_tAnd, e_tOr, e_tNot, e_tYes, e_if, e_aNil, e_aCons, e_tup, e_lst, e_lstN, e_len0, e_len1, e_len2, e_len3, e_len4, e_len5, e_cb, e_on1, e_on2, e_onI, e_onB, e_onO, e_onO0, e_onOO, e_I0, e_I, e_add, e_addT, e_addS, e_addL, e_addLR, e_addRL, e_addRR, e_mul, e_mulL, e_mulT, e_rev, e_revT, e_ix, e_eqI, e_eqS, e_eqB, e_neI, e_neS, e_neB, e_ltI, e_chain, e_len, e_abs, e_2I, e_tuple1, e_tuple2, e_tuple3, e_listT, e_listN, e_allR, e_seqT, e_seqK, e_seqL, e_isi, e_isB, e_notB, e_truth, e_next, e_drop, e_ret, e_retN, e_ifS, e_set, e_asg, e_par, e_nm, e_gsN, e_gsC, e_gTpK, e_gTpL, e_sum, e_maxL, e_minL, e_maxDef, e_int, e_intB, e_aug, e_on3, e_par3, e_newK, e_getK, e_keyI, e_keyS, e_inK, e_ninK, e_putK, e_lenK, e_lstS, e_seqX, e_gTpT, e_oN, e_oS, e_sl, e_slT, e_slL, e_finT, e_finN, e_index, e_idxT, e_idxL, e_mIx, e_ixST, e_ixSL, e_mtL, e_w, e_w1, e_w2, e_wE, e_wZ, e_itK, e_itT, e_itL, e_itT2, e_itL2, e_lc, e_for, e_wipe0, e_wipe, e_okI, e_okR, e_gSb, List.getElem?_cons_zero, List.getElem?_cons_succ, List.set_cons_zero, List.set_cons_succ, List.length_map, rl, Int.toNat_natCast]
  refine ⟨fun z => (by cases z), by omega, by omega, by simp, ?_⟩
  rw [emp_map]
  try dsimp only
  rw [e_seq]
  try simp only [e_var, e_C, e_op, e_neg, e_isN, e_notN, e_and, e_or, e_not, e_test, e_tAnd, e_tOr, e_tNot, e_tYes, e_if, e_aNil, e_aCons, e_tup, e_lst, e_lstN, e_len0, e_len1, e_len2, e_len3, e_len4, e_len5, e_cb, e_on1, e_on2, e_onI, e_onB, e_onO, e_onO0, e_onOO, e_I0, e_I, e_add, e_addT, e_addS, e_addL, e_addLR, e_addRL, e_addRR, e_mul, e_mulL, e_mulT, e_rev, e_revT, e_ix, e_eqI, e_eqS, e_eqB, e_neI, e_neS, e_neB, e_ltI, e_chain, e_len, e_abs, e_2I, e_tuple1, e_tuple2, e_tuple3, e_listT, e_listN, e_allR, e_seqT, e_seqK, e_seqL, e_isi, e_isB, e_notB, e_truth, e_next, e_drop, e_ret, e_retN, e_ifS, e_set, e_asg, e_par, e_nm, e_gsN, e_gsC, e_gTpK, e_gTpL, e_sum, e_maxL, e_minL, e_maxDef, e_int, e_intB, e_aug, e_on3, e_par3, e_newK, e_getK, e_keyI, e_keyS, e_inK, e_ninK, e_putK, e_lenK, e_lstS, e_seqX, e_gTpT, e_oN, e_oS, e_sl, e_slT, e_slL, e_finT, e_finN, e_index, e_idxT, e_idxL, e_mIx, e_ixST, e_ixSL, e_mtL, e_w, e_w1, e_w2, e_wE, e_wZ, e_itK, e_itT, e_itL, e_itT2, e_itL2, e_lc, e_for, e_wipe0, e_wipe, e_okI, e_okR, e_gSb, List.getElem?_cons_zero, List.getElem?_cons_succ, List.set_cons_zero, List.set_cons_succ]
  refine for_list (fun k : Nat => D.int (k : Nat)) (fun left r st' => ∃ (dn : List Nat) (x4 : Option D), dn ++ left = h ∧ r = [some (.tup (P.map rowD)), some (.tup (R.map rowsD)), some (.tup (h.map fun k : Nat => .int (k : Nat))), some (.tup ((layF P R dn).map D.int)), x4] ∧ st = st') ?_ ?_ h _ _ ⟨[], _, rfl, by unfold layF layG; rw [rl]; rfl, rfl⟩
  · rintro a left r st' N hN ⟨dn, x4, e, rfl, rfl⟩
    have Hd : Hist m n dn := by
      have nd := H.nd
      have lt := H.lt
      have fw := H.few
      rw [← e] at nd lt fw
      rw [List.nodup_append] at nd
      rw [List.length_append] at fw
      exact ⟨nd.1, fun k hk => lt k (List.mem_append_left _ hk), by omega⟩
    obtain ⟨g, ks⟩ := layF_good S Hd
    have nd := H.nd
    have fw := H.few
    rw [← e] at nd fw
    rw [List.nodup_append] at nd
    rw [List.length_append, List.length_cons] at fw
    have G := step_go S g ks (H.lt a (by rw [← e]; simp)) (fun z => nd.2.2 a z a (by simp) rfl) (by omega)
    try simp only [e_var, e_C, e_op, e_neg, e_isN, e_notN, e_and, e_or, e_not, e_test, e_tAnd, e_tOr, e_tNot, e_tYes, e_if, e_aNil, e_aCons, e_tup, e_lst, e_lstN, e_len0, e_len1, e_len2, e_len3, e_len4, e_len5, e_cb, e_on1, e_on2, e_onI, e_onB, e_onO, e_onO0, e_onOO, e_I0, e_I, e_add, e_addT, e_addS, e_addL, e_addLR, e_addRL, e_addRR, e_mul, e_mulL, e_mulT, e_rev, e_revT, e_ix, e_eqI, e_eqS, e_eqB, e_neI, e_neS, e_neB, e_ltI, e_chain, e_len, e_abs, e_2I, e_tuple1, e_tuple2, e_tuple3, e_listT, e_listN, e_allR, e_seqT, e_seqK, e_seqL, e_isi, e_isB, e_notB, e_truth, e_next, e_drop, e_ret, e_retN, e_ifS, e_set, e_asg, e_par, e_nm, e_gsN, e_gsC, e_gTpK, e_gTpL, e_sum, e_maxL, e_minL, e_maxDef, e_int, e_intB, e_aug, e_on3, e_par3, e_newK, e_getK, e_keyI, e_keyS, e_inK, e_ninK, e_putK, e_lenK, e_lstS, e_seqX, e_gTpT, e_oN, e_oS, e_sl, e_slT, e_slL, e_finT, e_finN, e_index, e_idxT, e_idxL, e_mIx, e_ixST, e_ixSL, e_mtL, e_w, e_w1, e_w2, e_wE, e_wZ, e_itK, e_itT, e_itL, e_itT2, e_itL2, e_lc, e_for, e_wipe0, e_wipe, e_okI, e_okR, e_gSb, List.getElem?_cons_zero, List.getElem?_cons_succ, List.set_cons_zero, List.set_cons_succ]
    refine ⟨m, n, P, R, layF P R dn, a, rfl, S, m60, n60, G, ?_⟩
    try simp only [e_var, e_C, e_op, e_neg, e_isN, e_notN, e_and, e_or, e_not, e_test, e_tAnd, e_tOr, e_tNot, e_tYes, e_if, e_aNil, e_aCons, e_tup, e_lst, e_lstN, e_len0, e_len1, e_len2, e_len3, e_len4, e_len5, e_cb, e_on1, e_on2, e_onI, e_onB, e_onO, e_onO0, e_onOO, e_I0, e_I, e_add, e_addT, e_addS, e_addL, e_addLR, e_addRL, e_addRR, e_mul, e_mulL, e_mulT, e_rev, e_revT, e_ix, e_eqI, e_eqS, e_eqB, e_neI, e_neS, e_neB, e_ltI, e_chain, e_len, e_abs, e_2I, e_tuple1, e_tuple2, e_tuple3, e_listT, e_listN, e_allR, e_seqT, e_seqK, e_seqL, e_isi, e_isB, e_notB, e_truth, e_next, e_drop, e_ret, e_retN, e_ifS, e_set, e_asg, e_par, e_nm, e_gsN, e_gsC, e_gTpK, e_gTpL, e_sum, e_maxL, e_minL, e_maxDef, e_int, e_intB, e_aug, e_on3, e_par3, e_newK, e_getK, e_keyI, e_keyS, e_inK, e_ninK, e_putK, e_lenK, e_lstS, e_seqX, e_gTpT, e_oN, e_oS, e_sl, e_slT, e_slL, e_finT, e_finN, e_index, e_idxT, e_idxL, e_mIx, e_ixST, e_ixSL, e_mtL, e_w, e_w1, e_w2, e_wE, e_wZ, e_itK, e_itT, e_itL, e_itT2, e_itL2, e_lc, e_for, e_wipe0, e_wipe, e_okI, e_okR, e_gSb, List.getElem?_cons_zero, List.getElem?_cons_succ, List.set_cons_zero, List.set_cons_succ, at0]
    refine hN _ _ (.inl ⟨dn ++ [a], some (.int (a : Nat)), by rw [List.append_assoc]; exact e, ?_, rfl⟩)
    have z : layF P R (dn ++ [a]) = (ins P R (layF P R dn) a).1 := by
      unfold layF
      rw [layG_app]
      rfl
    rw [z]
    rfl
  · rintro r st' ⟨dn, x4, e, rfl, rfl⟩
    rw [List.append_nil] at e
    subst e
    try simp only [e_var, e_C, e_op, e_neg, e_isN, e_notN, e_and, e_or, e_not, e_test, e_tAnd, e_tOr, e_tNot, e_tYes, e_if, e_aNil, e_aCons, e_tup, e_lst, e_lstN, e_len0, e_len1, e_len2, e_len3, e_len4, e_len5, e_cb, e_on1, e_on2, e_onI, e_onB, e_onO, e_onO0, e_onOO, e_I0, e_I, e_add, e_addT, e_addS, e_addL, e_addLR, e_addRL, e_addRR, e_mul, e_mulL, e_mulT, e_rev, e_revT, e_ix, e_eqI, e_eqS, e_eqB, e_neI, e_neS, e_neB, e_ltI, e_chain, e_len, e_abs, e_2I, e_tuple1, e_tuple2, e_tuple3, e_listT, e_listN, e_allR, e_seqT, e_seqK, e_seqL, e_isi, e_isB, e_notB, e_truth, e_next, e_drop, e_ret, e_retN, e_ifS, e_set, e_asg, e_par, e_nm, e_gsN, e_gsC, e_gTpK, e_gTpL, e_sum, e_maxL, e_minL, e_maxDef, e_int, e_intB, e_aug, e_on3, e_par3, e_newK, e_getK, e_keyI, e_keyS, e_inK, e_ninK, e_putK, e_lenK, e_lstS, e_seqX, e_gTpT, e_oN, e_oS, e_sl, e_slT, e_slL, e_finT, e_finN, e_index, e_idxT, e_idxL, e_mIx, e_ixST, e_ixSL, e_mtL, e_w, e_w1, e_w2, e_wE, e_wZ, e_itK, e_itT, e_itL, e_itT2, e_itL2, e_lc, e_for, e_wipe0, e_wipe, e_okI, e_okR, e_gSb, List.getElem?_cons_zero, List.getElem?_cons_succ, List.set_cons_zero, List.set_cons_succ]
    exact .inl q
end
end DL
namespace DL
open PySem PySem.Spec PyProof.Rows L2 LamX PySem.W SL
theorem dist_mod {n a : Nat} (i : Nat) : ML.dist n a (i % n) = ML.dist n a i := by unfold ML.dist; rw [Nat.mod_add_mod]
theorem isTk_iff {c : List Int} {s : Nat} (h : s < c.length) : isTk c s = true ↔ ML.tk (ML.cy c) (ML.cy (ML.flowsI c)) (s + (c.length - 1)) := by
  unfold isTk ML.tk
  rw [decide_eq_true_eq, show s + (c.length - 1) + 1 = s + c.length by omega, ML.cy_per, ML.cy_lt h]
structure More (c : List Int) (a L : Nat) : Prop where
  hc : Cnt c
  ha : a < c.length
  lt : ML.sumL c < c.length
  pas : ML.Passed c.length a L (ML.cy c) (ML.cy (ML.flowsI c))
def plus (c : List Int) (a : Nat) : List Int := c.set a (c.getD a 0 + 1)
theorem plus_length (c : List Int) (a : Nat) : (plus c a).length = c.length := by unfold plus; rw [List.length_set]
theorem plus_cnt {c : List Int} {a : Nat} (h : Cnt c) (ha : a < c.length) (lt : ML.sumL c < c.length) : Cnt (plus c a) := by
  refine ⟨fun z => ?_, by rw [plus_length]; exact h.few, fun x hx => ?_, ?_⟩
  · have := plus_length c a
    rw [z] at this
    exact h.ne (List.length_eq_zero_iff.mp this.symm)
  · unfold plus at hx
    rcases List.mem_or_eq_of_mem_set hx with w | w
    · exact h.nn x w
    · have := h.nn _ (getD_mem ha)
      omega
  · rw [plus_length]
    unfold plus
    rw [sum_set ha]
    omega
theorem plus_cy {c : List Int} {a : Nat} (ha : a < c.length) (i : Nat) : ML.cy (plus c a) i = ML.addC c.length a (ML.cy c) i := by
  have n0 : 0 < c.length := by omega
  unfold ML.addC
  have lm := Nat.mod_lt i n0
  have dz : ML.dist c.length a i = 0 ↔ i % c.length = a := by rw [← dist_mod i]; exact ML.dist_zero ha lm
  unfold ML.cy
  rw [plus_length]
  unfold plus
  by_cases e : i % c.length = a
  · rw [if_pos (dz.mpr e), e, List.getD_eq_getElem?_getD, List.getElem?_set_self ha]
    rfl
  · rw [if_neg (fun z => e (dz.mp z)), List.getD_eq_getElem?_getD, List.getElem?_set_ne (fun z => e z.symm), ← List.getD_eq_getElem?_getD]
    omega
def addL (F : List Int) (a t : Nat) : List Int := (List.range F.length).map fun s => F.getD s 0 + if ML.dist F.length a s < t then 1 else 0
theorem addL_length (F : List Int) (a t : Nat) : (addL F a t).length = F.length := by unfold addL; rw [List.length_map, List.length_range]
theorem addL_at {F : List Int} {a t s : Nat} (h : s < F.length) : (addL F a t).getD s 0 = F.getD s 0 + if ML.dist F.length a s < t then 1 else 0 := by
  unfold addL
  rw [List.getD_eq_getElem?_getD, List.getElem?_map, List.getElem?_eq_getElem (by rw [List.length_range]; exact h), List.getElem_range]
  rfl
theorem getD_ext {xs ys : List Int} (l : xs.length = ys.length) (h : ∀ i, i < xs.length → xs.getD i 0 = ys.getD i 0) : xs = ys := by
  refine List.ext_getElem l fun i h1 h2 => ?_
  have e := h i h1
  rw [List.getD_eq_getElem?_getD, List.getElem?_eq_getElem h1, List.getD_eq_getElem?_getD, List.getElem?_eq_getElem h2] at e
  simpa using e
theorem More.flows {c : List Int} {a L : Nat} (m : More c a L) : ML.flowsI (plus c a) = addL (ML.flowsI c) a L := by
  have n0 : 0 < c.length := m.hc.pos
  have lf := ML.flowsI_length c
  have cn := plus_cnt m.hc m.ha m.lt
  have c0 : ∀ i, 0 ≤ ML.cy c i := fun i => m.hc.nn _ (getD_mem (Nat.mod_lt _ n0))
  have F1 := m.hc.flow.more c0 m.pas
  have F2 := cn.flow
  rw [plus_length] at F2
  have F2' : ML.Flow c.length (ML.addC c.length a (ML.cy c)) (ML.cy (ML.flowsI (plus c a))) := ⟨F2.per, F2.nn, fun i => by rw [F2.rec_, plus_cy m.ha], F2.zero⟩
  refine getD_ext (by rw [ML.flowsI_length, plus_length, addL_length, lf]) fun i hi => ?_
  rw [ML.flowsI_length, plus_length] at hi
  have e := F2'.one F1 n0 i
  rw [ML.cy_lt (by rw [ML.flowsI_length, plus_length]; exact hi)] at e
  rw [e, addL_at (by rw [lf]; exact hi), lf]
  unfold ML.addF
  rw [ML.cy_lt (by rw [lf]; exact hi)]
theorem More.tk {c : List Int} {a L : Nat} (m : More c a L) {s : Nat} (h : s < c.length) : isTk (plus c a) s = true ↔ isTk c s = true ∨ s = (a + L) % c.length := by
  have n0 : 0 < c.length := m.hc.pos
  have c0 : ∀ i, 0 ≤ ML.cy c i := fun i => m.hc.nn _ (getD_mem (Nat.mod_lt _ n0))
  have z := ML.tk_more m.hc.flow c0 m.pas (s + (c.length - 1))
  rw [isTk_iff (by rw [plus_length]; exact h), isTk_iff h, plus_length]
  have e1 : ML.tk (ML.cy (plus c a)) (ML.cy (ML.flowsI (plus c a))) (s + (c.length - 1)) ↔ ML.tk (ML.addC c.length a (ML.cy c)) (ML.addF c.length a L (ML.cy (ML.flowsI c))) (s + (c.length - 1)) := by
    unfold ML.tk
    rw [plus_cy m.ha]
    have cn := plus_cnt m.hc m.ha m.lt
    have F2 := cn.flow
    rw [plus_length] at F2
    have F2' : ML.Flow c.length (ML.addC c.length a (ML.cy c)) (ML.cy (ML.flowsI (plus c a))) := ⟨F2.per, F2.nn, fun i => by rw [F2.rec_, plus_cy m.ha], F2.zero⟩
    rw [F2'.one (m.hc.flow.more c0 m.pas) n0]
  rw [e1, z, show s + (c.length - 1) + 1 = s + c.length by omega, ML.dist_per, ML.dist_eq m.ha h m.pas.lt]
theorem more_of {c : List Int} {a : Nat} (hc : Cnt c) (ha : a < c.length) (lt : ML.sumL c < c.length) : ∃ L, More c a L := by
  obtain ⟨L, P⟩ := hc.flow.way (ML.cy_per c) ha (by rw [← ML.sumL_cy]; exact lt)
  exact ⟨L, hc, ha, lt, P⟩
theorem More.yes {c : List Int} {a L t : Nat} (m : More c a L) (h : t < L) : isTk c ((a + t) % c.length) = true := by
  have n0 : 0 < c.length := m.hc.pos
  have lm := Nat.mod_lt (a + t) n0
  rw [isTk_iff lm]
  refine m.pas.yes _ ?_
  have ll := m.pas.lt
  rw [show (a + t) % c.length + (c.length - 1) + 1 = (a + t) % c.length + c.length by omega, ML.dist_per, (ML.dist_eq m.ha lm (by omega)).mpr rfl]
  exact h
theorem More.no {c : List Int} {a L : Nat} (m : More c a L) : isTk c ((a + L) % c.length) = false := by
  have n0 : 0 < c.length := m.hc.pos
  have lm := Nat.mod_lt (a + L) n0
  have z : ¬ isTk c ((a + L) % c.length) = true := by
    rw [isTk_iff lm]
    refine m.pas.no _ ?_
    rw [show (a + L) % c.length + (c.length - 1) + 1 = (a + L) % c.length + c.length by omega, ML.dist_per, (ML.dist_eq m.ha lm m.pas.lt).mpr rfl]
  cases h : isTk c ((a + L) % c.length) with
  | true => exact absurd h z
  | false => rfl
structure Full (c : List Int) (kvs : List (Key × D)) : Prop where
  ex : ∃ ks : List Int, kvs.map (·.1) = ks.map Sum.inl ∧ ks.Nodup ∧ ∀ x, x ∈ ks ↔ x ∈ takenI c
theorem takenI_mem {c : List Int} {x : Int} : x ∈ takenI c ↔ ∃ s : Nat, x = s ∧ s < c.length ∧ isTk c s = true := by
  unfold takenI
  rw [List.mem_map]
  constructor
  · rintro ⟨s, hs, rfl⟩
    obtain ⟨h1, h2⟩ := List.mem_filter.mp hs
    exact ⟨s, rfl, List.mem_range.mp h1, h2⟩
  · rintro ⟨s, rfl, h1, h2⟩
    exact ⟨s, List.mem_filter.mpr ⟨List.mem_range.mpr h1, h2⟩, rfl⟩
theorem takenI_at {c : List Int} {s : Nat} (h : s < c.length) : (s : Int) ∈ takenI c ↔ isTk c s = true := by
  rw [takenI_mem]
  constructor
  · rintro ⟨k, e, _, h2⟩
    have : s = k := by omega
    subst this
    exact h2
  · exact fun h2 => ⟨s, rfl, h, h2⟩
theorem valD_some {κ : Type} [DecidableEq κ] {kvs : List (κ × D)} {k : κ} : (valD kvs k).isSome = true ↔ k ∈ kvs.map (·.1) := by
  unfold valD
  rw [Option.isSome_map, List.find?_isSome]
  constructor
  · rintro ⟨p, hp, e⟩
    exact List.mem_map.mpr ⟨p, hp, of_decide_eq_true e⟩
  · intro h
    obtain ⟨p, hp, e⟩ := List.mem_map.mp h
    exact ⟨p, hp, decide_eq_true e⟩
theorem Full.at_ {c : List Int} {kvs : List (Key × D)} (f : Full c kvs) {s : Nat} (h : s < c.length) : (valD kvs (.inl (s : Int))).isSome = isTk c s := by
  obtain ⟨ks, e, nd, m⟩ := f.ex
  rw [Bool.eq_iff_iff, valD_some, e]
  rw [← takenI_at h, ← m]
  constructor
  · intro z
    obtain ⟨x, hx, e⟩ := List.mem_map.mp z
    cases e
    exact hx
  · exact fun z => List.mem_map.mpr ⟨_, z, rfl⟩
theorem putD_new {κ : Type} [DecidableEq κ] {kvs : List (κ × D)} {k : κ} {v : D} (h : (valD kvs k).isSome = false) : putD kvs k v = kvs ++ [(k, v)] := by
  unfold putD
  rw [if_neg]
  intro z
  obtain ⟨p, hp, e⟩ := List.any_eq_true.mp z
  have := valD_some.mpr (List.mem_map.mpr ⟨p, hp, of_decide_eq_true e⟩)
  rw [h] at this
  cases this
theorem Full.more {c : List Int} {a L : Nat} {kvs : List (Key × D)} {v : D} (f : Full c kvs) (m : More c a L) : Full (plus c a) (putD kvs (.inl (((a + L) % c.length : Nat) : Int)) v) := by
  have n0 : 0 < c.length := m.hc.pos
  have lm := Nat.mod_lt (a + L) n0
  have no := m.no
  rw [putD_new (by rw [f.at_ lm]; exact no)]
  obtain ⟨ks, e, nd, mm⟩ := f.ex
  have ni : (((a + L) % c.length : Nat) : Int) ∉ ks := fun z => by
    have := (takenI_at lm).mp ((mm _).mp z)
    rw [no] at this
    cases this
  refine ⟨ks ++ [(((a + L) % c.length : Nat) : Int)], by rw [List.map_append, List.map_append, e]; rfl, ?_, fun x => ?_⟩
  · rw [List.nodup_append]
    refine ⟨nd, by simp, fun y hy z hz => ?_⟩
    rw [List.mem_singleton.mp hz]
    exact fun w => ni (w ▸ hy)
  · rw [List.mem_append, List.mem_singleton, mm, takenI_mem, takenI_mem, plus_length]
    constructor
    · rintro (⟨s, rfl, h1, h2⟩ | rfl)
      · exact ⟨s, rfl, h1, (m.tk h1).mpr (.inl h2)⟩
      · exact ⟨_, rfl, lm, (m.tk lm).mpr (.inr rfl)⟩
    · rintro ⟨s, rfl, h1, h2⟩
      rcases (m.tk h1).mp h2 with z | z
      · exact .inl ⟨s, rfl, h1, z⟩
      · rw [z]; exact .inr rfl
structure Upto (c : List Int) (i j : Nat) (cc : List Int) : Prop where
  len : cc.length = c.length
  at_ : ∀ s, s < c.length → cc.getD s 0 = if s < i then c.getD s 0 else if s = i then (j : Int) else 0
theorem Upto.next {c cc : List Int} {i : Nat} (h : Upto c i (c.getD i 0).toNat cc) (nn : ∀ x ∈ c, 0 ≤ x) (hi : i < c.length) : Upto c (i + 1) 0 cc := by
  refine ⟨h.len, fun s hs => ?_⟩
  rw [h.at_ s hs]
  have z := nn _ (getD_mem hi)
  rcases Nat.lt_trichotomy s i with q | q | q
  · rw [if_pos q, if_pos (by omega)]
  · subst q
    rw [if_neg (Nat.lt_irrefl _), if_pos rfl, if_pos (by omega), Int.toNat_of_nonneg z]
  · rw [if_neg (by omega), if_neg (by omega), if_neg (by omega)]
    split <;> rfl
theorem Upto.plus {c cc : List Int} {i j : Nat} (h : Upto c i j cc) (hi : i < c.length) : Upto c i (j + 1) (plus cc i) := by
  have li : i < cc.length := by rw [h.len]; exact hi
  refine ⟨by rw [plus_length, h.len], fun s hs => ?_⟩
  unfold DL.plus
  by_cases e : s = i
  · subst e
    rw [List.getD_eq_getElem?_getD, List.getElem?_set_self li, if_neg (Nat.lt_irrefl _), if_pos rfl]
    show cc.getD s 0 + 1 = _
    rw [h.at_ s hs, if_neg (Nat.lt_irrefl _), if_pos rfl]
    omega
  · rw [List.getD_eq_getElem?_getD, List.getElem?_set_ne (fun z => e z.symm), ← List.getD_eq_getElem?_getD, h.at_ s hs, if_neg e, if_neg e]
theorem Upto.le {c cc : List Int} {i j : Nat} (h : Upto c i j cc) (nn : ∀ x ∈ c, 0 ≤ x) (hj : i < c.length → (j : Int) ≤ c.getD i 0) : ML.sumL cc ≤ ML.sumL c := by
  rw [ML.sumL_N, ML.sumL_N, h.len]
  refine ML.sumN_le fun s hs => ?_
  rw [h.at_ s hs]
  split
  · exact Int.le_refl _
  · split
    · rename_i e; subst e; exact hj hs
    · exact nn _ (getD_mem hs)
theorem Upto.lt {c cc : List Int} {i j : Nat} (h : Upto c i j cc) (nn : ∀ x ∈ c, 0 ≤ x) (hi : i < c.length) (hj : (j : Int) < c.getD i 0) : ML.sumL cc < ML.sumL c := by
  have z := (h.plus hi).le nn fun _ => by omega
  unfold DL.plus at z
  rw [sum_set (by rw [h.len]; exact hi)] at z
  omega
theorem Upto.nn {c cc : List Int} {i j : Nat} (h : Upto c i j cc) (nn : ∀ x ∈ c, 0 ≤ x) : ∀ x ∈ cc, 0 ≤ x := by
  intro x hx
  obtain ⟨s, hs⟩ := List.mem_iff_getElem?.mp hx
  have ls := (List.getElem?_eq_some_iff.mp hs).1
  rw [h.len] at ls
  have e := h.at_ s ls
  rw [List.getD_eq_getElem?_getD, hs] at e
  have e' : x = _ := e
  rw [e']
  split
  · exact nn _ (getD_mem ls)
  · split <;> omega
theorem Upto.cnt {c cc : List Int} {i j : Nat} (h : Upto c i j cc) (hc : Cnt c) (hj : i < c.length → (j : Int) ≤ c.getD i 0) : Cnt cc := by
  refine ⟨fun z => ?_, by rw [h.len]; exact hc.few, h.nn hc.nn, ?_⟩
  · have := h.len
    rw [z] at this
    exact hc.ne (List.length_eq_zero_iff.mp this.symm)
  · rw [h.len]
    exact Int.le_trans (h.le hc.nn hj) hc.room
theorem Upto.all {c cc : List Int} {j : Nat} (h : Upto c c.length j cc) : cc = c := getD_ext h.len fun s hs => by
  rw [h.len] at hs
  rw [h.at_ s hs, if_pos hs]
theorem scan_rep0 : ∀ n : Nat, ML.scan 0 (List.replicate n 0) = List.replicate n 0 ∧ ML.run 0 (List.replicate n 0) = 0
  | 0 => ⟨rfl, rfl⟩
  | n + 1 => by
    obtain ⟨a, b⟩ := scan_rep0 n
    rw [List.replicate_succ]
    have e : ML.step 0 0 = 0 := by decide
    constructor
    · show ML.step 0 0 :: ML.scan (ML.step 0 0) _ = _
      rw [e, a]
    · rw [ML.run_cons, e, b]
theorem flows_rep0 (n : Nat) : ML.flowsI (List.replicate n 0) = List.replicate n 0 := by
  unfold ML.flowsI
  rw [(scan_rep0 n).2, (scan_rep0 n).1]
end DL
namespace DL
open PySem PySem.Spec PyProof.Rows L2 LamX PySem.W SL
end DL
namespace ML
theorem Flow.bound {n : Nat} {c f : Nat → Int} (F : Flow n c f) (c0 : ∀ i, 0 ≤ c i) (cp : ∀ i, c (i + n) = c i) (n0 : 0 < n) (i : Nat) : f i ≤ sumN n c := by
  obtain ⟨z, hz⟩ := F.zero
  have up : ∀ k, f (z + k) ≤ sumN k (fun j => c (j + (z + 1))) := by
    intro k
    induction k with
    | zero => show f z ≤ 0; omega
    | succ k ih =>
      show f (z + (k + 1)) ≤ sumN k (fun j => c (j + (z + 1))) + c (k + (z + 1))
      have e := F.rec_ (z + k)
      have c1 := c0 (z + k + 1)
      have f1 := F.nn (z + k)
      rw [show z + (k + 1) = z + k + 1 by omega, e, show k + (z + 1) = z + k + 1 by omega]
      unfold step
      split <;> omega
  have mono : ∀ b a, a ≤ b → sumN a (fun j => c (j + (z + 1))) ≤ sumN b (fun j => c (j + (z + 1))) := by
    intro b
    induction b with
    | zero => intro a h; rw [Nat.le_zero.mp h]; exact Int.le_refl _
    | succ b ih =>
      intro a h
      rcases Nat.lt_or_ge a (b + 1) with q | q
      · have h1 := ih a (by omega)
        have h2 := c0 (b + (z + 1))
        show _ ≤ sumN b (fun j => c (j + (z + 1))) + c (b + (z + 1))
        omega
      · rw [show a = b + 1 by omega]; exact Int.le_refl _
  have e : i + n * (z + 1) = z + (i + n * (z + 1) - z) := by
    have : z + 1 ≤ n * (z + 1) := Nat.le_mul_of_pos_left _ n0
    omega
  -- the rest below n
  have key : ∀ k, f (z + k % n) = f (z + k) := fun k => by
    have := per_mul F.per (z + k % n) (k / n)
    rw [Nat.add_assoc, Nat.mod_add_div] at this
    exact this.symm
  rw [← per_mul F.per i (z + 1), e, ← key]
  refine Int.le_trans (up _) (Int.le_trans (mono n _ (Nat.le_of_lt (Nat.mod_lt _ n0))) ?_)
  rw [sumN_shifts cp]
  exact Int.le_refl _
end ML
namespace DL
open PySem PySem.Spec PyProof.Rows L2 LamX PySem.W SL
theorem Cnt.c0 {c : List Int} (h : Cnt c) (i : Nat) : 0 ≤ ML.cy c i := h.nn _ (getD_mem (Nat.mod_lt _ h.pos))
theorem Cnt.fl {c : List Int} (h : Cnt c) : ∀ x ∈ ML.flowsI c, 0 ≤ x ∧ x ≤ c.length := by
  intro x hx
  obtain ⟨i, hi⟩ := List.mem_iff_getElem?.mp hx
  have li := (List.getElem?_eq_some_iff.mp hi).1
  have e : ML.cy (ML.flowsI c) i = x := by rw [ML.cy_lt li, List.getD_eq_getElem?_getD, hi]; rfl
  have b := h.flow.bound h.c0 (ML.cy_per c) h.pos i
  have n := h.flow.nn i
  rw [e] at b n
  rw [← ML.sumL_cy] at b
  have := h.room
  omega
theorem Cnt.sm {c : List Int} (h : Cnt c) (l : c.length ≤ 64) : Sm 1 1411 (rowD c) :=
  sm_row (m := 64) (fun x hx => by have := h.nn x hx; have := h.le hx; omega) l
theorem Cnt.step {c : List Int} (h : Cnt c) {i : Nat} (hi : i < c.length) : (ML.flowsI c).getD i 0 = ML.step (ML.cy (ML.flowsI c) (i + (c.length - 1))) (c.getD i 0) := by
  have z := h.flow.rec_ (i + (c.length - 1))
  rw [show i + (c.length - 1) + 1 = i + c.length by omega, h.flow.per, ML.cy_per, ML.cy_lt hi, ML.cy_lt (by rw [ML.flowsI_length]; exact hi)] at z
  exact z
end DL
namespace DL
open PySem PySem.Spec PyProof.Rows L2 LamX PySem.W SL
theorem takenI_asc (c : List Int) : (takenI c).Pairwise (· < ·) := by
  unfold takenI
  refine List.Pairwise.map _ (fun a b h => ?_) (List.Pairwise.filter _ List.pairwise_lt_range)
  omega
theorem sorted_lt_le {xs : List Int} (h : xs.Pairwise (· < ·)) : xs.Pairwise (· ≤ ·) := h.imp fun h => Int.le_of_lt h
theorem Full.sorted {c : List Int} {kvs : List (Key × D)} (f : Full c kvs) : ∃ ks : List Int, kvs.map (·.1) = ks.map Sum.inl ∧ ∀ out : List Int, out.Perm ks → out.Pairwise (· ≤ ·) → out = takenI c := by
  obtain ⟨ks, e, nd, m⟩ := f.ex
  refine ⟨ks, e, fun out p so => sorted_one (p.trans ?_) so (sorted_lt_le (takenI_asc c))⟩
  exact (List.perm_ext_iff_of_nodup nd (asc_nodup (takenI_asc c))).mpr m
theorem sum_addL {F : List Int} {a L : Nat} (ha : a < F.length) (hL : L ≤ F.length) : ML.sumL (addL F a L) = ML.sumL F + L := by
  rw [ML.sumL_N, addL_length, ML.sumL_N]
  have e : ML.sumN F.length (fun i => (addL F a L).getD i 0) = ML.sumN F.length (ML.addF F.length a L fun i => F.getD i 0) := ML.sumN_congr fun i h => by rw [addL_at h]; rfl
  rw [e, ML.sum_addF ha hL]
theorem More.sum {c : List Int} {a L : Nat} (m : More c a L) : ML.sumL (ML.flowsI (plus c a)) = ML.sumL (ML.flowsI c) + L := by
  have lF := ML.flowsI_length c
  rw [m.flows, sum_addL (by rw [lF]; exact m.ha) (by rw [lF]; exact Nat.le_of_lt m.pas.lt)]
end DL
namespace DL
open PySem PySem.Spec PyProof.Rows L2 LamX PySem.W SL
theorem sm_intB {i : Int} (h : i.natAbs < 10 ^ 12) : Sm 0 20 (.int i) := by
  refine ⟨.int i, rfl, ⟨?_, by simp [PyData.depth], Nat.le_trans (PyData.shown_int_le h) (by decide), by simp [PyData.canLay0]⟩⟩
  simp only [PyData.showable]
  refine decide_eq_true ?_
  by_cases z : i.natAbs = 0
  · rw [z]; decide
  · exact Nat.lt_trans ((Nat.log2_lt z).mpr (Nat.lt_trans h (by decide : 10 ^ 12 < 2 ^ 64))) (by decide)
end DL
namespace ML
theorem sumN_zero (n : Nat) : sumN n (fun _ => (0 : Int)) = 0 := by rw [sumN_const]; simp
theorem sumN_sub (n : Nat) (g h : Nat → Int) : sumN n (fun i => g i - h i) = sumN n g - sumN n h := by
  induction n with
  | zero => rfl
  | succ n ih => simp only [sumN]; rw [ih]; omega
theorem sumN_mul (n : Nat) (a : Int) (g : Nat → Int) : sumN n (fun i => a * g i) = a * sumN n g := by
  induction n with
  | zero => simp [sumN]
  | succ n ih => simp only [sumN]; rw [ih, Int.mul_add]
theorem sumN_swap (n m : Nat) (g : Nat → Nat → Int) : sumN n (fun i => sumN m (fun j => g i j)) = sumN m (fun j => sumN n (fun i => g i j)) := by
  induction n with
  | zero => simp only [sumN]; exact (sumN_zero m).symm
  | succ n ih => simp only [sumN]; rw [ih, ← sumN_add]
theorem sumN_split (a b : Nat) (g : Nat → Int) : sumN (a + b) g = sumN a g + sumN b (fun i => g (a + i)) := by
  induction b with
  | zero => simp [sumN]
  | succ b ih => rw [show a + (b + 1) = (a + b) + 1 by omega]; simp only [sumN]; rw [ih]; omega
theorem sumN_one {n x : Nat} (h : x < n) : sumN n (fun i => if i = x then (1 : Int) else 0) = 1 := by
  induction n with
  | zero => omega
  | succ n ih =>
    simp only [sumN]
    by_cases e : x = n
    · subst e
      rw [if_pos rfl, sumN_congr (h := fun _ => 0) (fun i hi => if_neg (by omega)), sumN_zero]
      rfl
    · rw [if_neg (fun z => e z.symm), ih (by omega)]
      rfl
theorem sumN_dist {n a : Nat} (h : a ≤ n) (n0 : 0 < n) (g : Nat → Int) : sumN n (fun u => g (dist n a u)) = sumN n g := by
  have z := sumN_shifts (n := n) (g := fun i => g (i % n)) (fun i => by simp) (n - a)
  have e : sumN n (fun i => g (i % n)) = sumN n g := sumN_congr fun i hi => by rw [Nat.mod_eq_of_lt hi]
  rw [e] at z
  exact z
def sq (i : Nat) : Int := (i : Int) * i
theorem waits_sq (x c : Nat) : sumN c (fun k => ((x : Int) + k) * ((x : Int) + k)) = sumN (x + c) sq - sumN x sq := by
  rw [sumN_split]
  have e : sumN c (fun k => ((x : Int) + k) * ((x : Int) + k)) = sumN c (fun i => sq (x + i)) := sumN_congr fun i _ => by unfold sq; rw [Int.natCast_add]
  rw [e]
  omega
theorem sq_flows {n : Nat} {c f : Nat → Int} (F : Flow n c f) (n0 : 0 < n) (c0 : ∀ i, 0 ≤ c i) (cp : ∀ i, c (i + n) = c i) :
    sumN n (fun s => sumN (c s).toNat fun k => (f (s + (n - 1)) + (k : Int)) * (f (s + (n - 1)) + (k : Int))) = sumN n fun s => f s * f s := by
  have e : ∀ s, s < n → (sumN (c s).toNat fun k => (f (s + (n - 1)) + (k : Int)) * (f (s + (n - 1)) + (k : Int))) = sumN ((f s).toNat + 1) sq - sumN (f (s + (n - 1))).toNat sq := by
    intro s hs
    have x0 := F.nn (s + (n - 1))
    have y0 := F.nn s
    have cs := c0 s
    have ex : (((f (s + (n - 1))).toNat : Nat) : Int) = f (s + (n - 1)) := by omega
    have w := waits_sq (f (s + (n - 1))).toNat (c s).toNat
    rw [ex] at w
    rw [w]
    have st := F.rec_ (s + (n - 1))
    have e1 : s + (n - 1) + 1 = s + n := by omega
    rw [e1, F.per, cp] at st
    unfold step at st
    by_cases z : f (s + (n - 1)) + c s = 0
    · have a1 : (f (s + (n - 1))).toNat = 0 := by omega
      have a2 : (c s).toNat = 0 := by omega
      have a3 : (f s).toNat = 0 := by
        split at st <;> omega
      rw [a1, a2, a3]
      rfl
    · have a1 : (f (s + (n - 1))).toNat + (c s).toNat = (f s).toNat + 1 := by
        split at st <;> omega
      rw [a1]
  rw [sumN_congr e, sumN_sub]
  have sh := sumN_shifts (n := n) (g := fun i => sumN (f i).toNat sq) (fun i => by simp only [F.per]) (n - 1)
  rw [sh, ← sumN_sub]
  refine sumN_congr fun s hs => ?_
  have y0 := F.nn s
  show (sumN (f s).toNat sq + sq (f s).toNat) - sumN (f s).toNat sq = f s * f s
  have ey : (((f s).toNat : Nat) : Int) = f s := by omega
  unfold sq
  rw [ey]
  omega
theorem tri_sum (d : Nat) : ∀ n : Nat, d ≤ n → 2 * sumN n (fun a => sumN n fun j => if a + j < d then (1 : Int) else 0) = (d : Int) * (d + 1) := by
  have inner : ∀ (n a d : Nat), d ≤ n → sumN n (fun j => if a + j < d then (1 : Int) else 0) = ((d - a : Nat) : Int) := by
    intro n
    induction n with
    | zero => intro a d h; have : d = 0 := by omega
              subst this; simp [sumN]
    | succ n ih =>
      intro a d h
      rw [sumN_first]
      have s1 : sumN n (fun i => if a + (i + 1) < d then (1 : Int) else 0) = sumN n (fun j => if a + j < d - 1 then (1 : Int) else 0) := sumN_congr fun i _ => by
        by_cases q : a + (i + 1) < d
        · rw [if_pos q, if_pos (by omega)]
        · rw [if_neg q, if_neg (by omega)]
      rw [s1, ih a (d - 1) (by omega)]
      by_cases q : a + 0 < d
      · rw [if_pos q]; omega
      · rw [if_neg q]; omega
  have outer : ∀ (n d : Nat), d ≤ n → 2 * sumN n (fun a => ((d - a : Nat) : Int)) = (d : Int) * (d + 1) := by
    intro n
    induction n with
    | zero => intro d h; have : d = 0 := by omega
              subst this; simp [sumN]
    | succ n ih =>
      intro d h
      rw [sumN_first]
      cases d with
      | zero =>
        rw [sumN_congr (h := fun _ => (0 : Int)) (fun i _ => by simp), sumN_zero]
        simp
      | succ d =>
        have z := ih d (by omega)
        rw [sumN_congr (h := fun a => ((d - a : Nat) : Int)) (fun i _ => by rw [Nat.add_sub_add_right])]
        rw [Int.mul_add, z]
        have e : ((d + 1 - 0 : Nat) : Int) = (d : Int) + 1 := by omega
        rw [e]
        have e2 : ((d + 1 : Nat) : Int) = (d : Int) + 1 := by omega
        rw [e2]
        generalize (d : Int) = x
        rw [Int.add_mul x 1 (x + 1 + 1), Int.mul_add x (x + 1) 1]
        omega
  intro n h
  rw [sumN_congr (h := fun a => ((d - a : Nat) : Int)) fun a _ => inner n a d h]
  exact outer n d h
structure Pl (n : Nat) (o : Nat → Prop) (h d : Nat → Nat) : Prop where
  home : ∀ s, s < n → o s → h s < n
  far : ∀ s, s < n → o s → d s < n ∧ (h s + d s) % n = s
variable {n : Nat} {o : Nat → Prop} [DecidablePred o] {h d : Nat → Nat}
def ev (n : Nat) (o : Nat → Prop) [DecidablePred o] (h d : Nat → Nat) (u j s : Nat) : Int := if o s ∧ dist n (h s) u + j < d s then 1 else 0
def psd (n : Nat) (o : Nat → Prop) [DecidablePred o] (h d : Nat → Nat) (u : Nat) : Int := sumN n (ev n o h d u 0)
theorem ev_less (P : Pl n o h d) {u : Nat} (hu : u < n) (j : Nat) : sumN n (ev n o h d u j) - 1 ≤ sumN n (ev n o h d u (j + 1)) := by
  have n0 : 0 < n := by omega
  have one := sumN_one (n := n) (x := (u + (j + 1)) % n) (Nat.mod_lt _ n0)
  have le : sumN n (ev n o h d u j) ≤ sumN n (fun s => ev n o h d u (j + 1) s + if s = (u + (j + 1)) % n then (1 : Int) else 0) := sumN_le fun s hs => by
    unfold ev
    by_cases a : o s ∧ dist n (h s) u + j < d s
    · rw [if_pos a]
      by_cases b : dist n (h s) u + (j + 1) < d s
      · rw [if_pos ⟨a.1, b⟩]
        split <;> omega
      · have f := P.far s hs a.1
        have hh := P.home s hs a.1
        have e : d s = dist n (h s) u + (j + 1) := by omega
        have es : s = (u + (j + 1)) % n := by
          rw [e] at f
          rw [← f.2]
          unfold dist
          have k : (h s + (u + (n - h s)) % n) % n = u % n := by rw [Nat.add_mod_mod, show h s + (u + (n - h s)) = u + n by omega, Nat.add_mod_right]
          rw [← Nat.add_assoc, Nat.add_mod, k, ← Nat.add_mod]
        rw [if_pos es]
        split <;> omega
    · rw [if_neg a]
      split <;> split <;> omega
  rw [sumN_add, one] at le
  omega
theorem ev_ge (P : Pl n o h d) {u : Nat} (hu : u < n) : ∀ j : Nat, psd n o h d u - (j : Int) ≤ sumN n (ev n o h d u j)
  | 0 => by unfold psd; omega
  | j + 1 => by
    have a := ev_ge P hu j
    have b := ev_less P hu j
    omega
theorem ev_nn (u j : Nat) : 0 ≤ sumN n (ev n o h d u j) := by
  have z := sumN_le (n := n) (g := fun _ => (0 : Int)) (h := ev n o h d u j) fun s _ => by unfold ev; split <;> omega
  rw [sumN_zero] at z
  exact z
theorem psd_nn (u : Nat) : 0 ≤ psd n o h d u := ev_nn u 0
theorem sumN_pos : ∀ {n : Nat} {g : Nat → Int}, 0 < sumN n g → ∃ i, i < n ∧ 0 < g i
  | 0, g, p => by simp [sumN] at p
  | n + 1, g, p => by
    simp only [sumN] at p
    by_cases q : 0 < sumN n g
    · obtain ⟨i, hi, w⟩ := sumN_pos q
      exact ⟨i, by omega, w⟩
    · exact ⟨n, by omega, by omega⟩
theorem psd_far (P : Pl n o h d) {u : Nat} (hu : u < n) (p : 0 < psd n o h d u) : ∃ s, s < n ∧ o s ∧ psd n o h d u ≤ (d s : Int) := by
  have z := ev_ge P hu (psd n o h d u - 1).toNat
  obtain ⟨s, hs, w⟩ := sumN_pos (n := n) (g := ev n o h d u (psd n o h d u - 1).toNat) (by omega)
  unfold ev at w
  split at w
  · rename_i q
    exact ⟨s, hs, q.1, by omega⟩
  · omega
theorem psd_sum (P : Pl n o h d) (n0 : 0 < n) : sumN n (psd n o h d) = sumN n fun s => if o s then (d s : Int) else 0 := by
  unfold psd
  rw [sumN_swap]
  refine sumN_congr fun s hs => ?_
  unfold ev
  by_cases a : o s
  · rw [if_pos a]
    have f := P.far s hs a
    have hh := P.home s hs a
    have e : sumN n (fun u => if o s ∧ dist n (h s) u + 0 < d s then (1 : Int) else 0) = sumN n (fun u => (fun x => if x < d s then (1 : Int) else 0) (dist n (h s) u)) := sumN_congr fun u _ => by
      by_cases q : dist n (h s) u < d s
      · simp only [a, q, true_and, Nat.add_zero]
      · simp only [a, q, true_and, Nat.add_zero]
    rw [e, sumN_dist (by omega) n0 fun x => if x < d s then (1 : Int) else 0]
    have cnt : ∀ n d : Nat, d ≤ n → sumN n (fun x => if x < d then (1 : Int) else 0) = d := by
      intro n
      induction n with
      | zero => intro d hd; have : d = 0 := by omega
                subst this; rfl
      | succ n ih =>
        intro d hd
        simp only [sumN]
        by_cases q : n < d
        · have : d = n + 1 := by omega
          subst this
          rw [if_pos q, sumN_congr (h := fun x => if x < n then (1 : Int) else 0) (fun i hi => by rw [if_pos hi, if_pos (by omega)]), ih n (Nat.le_refl n)]
          omega
        · rw [if_neg q, ih d (by omega)]
          omega
    exact cnt n (d s) (by omega)
  · rw [if_neg a, sumN_congr (h := fun _ => (0 : Int)) (fun u _ => if_neg fun z => a z.1), sumN_zero]
theorem psd_sq (P : Pl n o h d) (n0 : 0 < n) (le : ∀ u, u < n → psd n o h d u ≤ n) : sumN n (fun u => psd n o h d u * psd n o h d u) ≤ sumN n fun s => if o s then (d s : Int) * d s else 0 := by
  have A : ∀ u, u < n → psd n o h d u * psd n o h d u + psd n o h d u ≤ 2 * sumN n (fun j => sumN n (ev n o h d u j)) := fun u hu => by
    have p0 := psd_nn (n := n) (o := o) (h := h) (d := d) u
    obtain ⟨x, hx⟩ : ∃ x : Nat, psd n o h d u = (x : Int) := ⟨(psd n o h d u).toNat, by omega⟩
    have t := tri_sum x n (by have := le u hu; omega)
    have b : sumN n (fun a => sumN n fun j => if a + j < x then (1 : Int) else 0) ≤ sumN n (fun j => sumN n (ev n o h d u j)) := sumN_le fun a ha => by
      have g := ev_ge P hu a
      have g0 := ev_nn (n := n) (o := o) (h := h) (d := d) u a
      have inn : ∀ (m : Nat), sumN m (fun j => if a + j < x then (1 : Int) else 0) ≤ ((x - a : Nat) : Int) := by
        intro m
        have : ∀ m y : Nat, sumN m (fun j => if j < y then (1 : Int) else 0) ≤ (y : Int) := by
          intro m
          induction m with
          | zero => intro y; simp [sumN]
          | succ m ih =>
            intro y
            rw [sumN_first]
            cases y with
            | zero => rw [sumN_congr (h := fun _ => (0 : Int)) (fun i _ => if_neg (by omega)), sumN_zero]; simp
            | succ y =>
              have z := ih y
              rw [sumN_congr (h := fun j => if j < y then (1 : Int) else 0) (fun i _ => by by_cases q : i < y; rw [if_pos q, if_pos (by omega)]; rw [if_neg q, if_neg (by omega)])]
              rw [if_pos (by omega)]
              omega
        have z := this m (x - a)
        rw [sumN_congr (h := fun j => if j < x - a then (1 : Int) else 0) (fun i _ => by by_cases q : a + i < x; rw [if_pos q, if_pos (by omega)]; rw [if_neg q, if_neg (by omega)])]
        exact z
      have i2 := inn n
      rw [hx] at g
      omega
    rw [hx]
    have : (x : Int) * x + x = (x : Int) * (x + 1) := by rw [Int.mul_add]; omega
    rw [this]
    omega
  have B : 2 * sumN n (fun u => sumN n (fun j => sumN n (ev n o h d u j))) = sumN n (fun s => if o s then (d s : Int) * (d s + 1) else 0) := by
    have e1 : sumN n (fun u => sumN n (fun j => sumN n (ev n o h d u j))) = sumN n (fun s => sumN n (fun u => sumN n (fun j => ev n o h d u j s))) := by
      rw [sumN_congr (h := fun u => sumN n (fun s => sumN n (fun j => ev n o h d u j s))) fun u _ => sumN_swap n n _]
      exact sumN_swap n n _
    rw [e1, ← sumN_mul]
    refine sumN_congr fun s hs => ?_
    unfold ev
    by_cases a : o s
    · rw [if_pos a]
      have f := P.far s hs a
      have hh := P.home s hs a
      have e : sumN n (fun u => sumN n fun j => if o s ∧ dist n (h s) u + j < d s then (1 : Int) else 0) = sumN n (fun u => (fun x => sumN n fun j => if x + j < d s then (1 : Int) else 0) (dist n (h s) u)) := sumN_congr fun u _ => sumN_congr fun j _ => by
        simp only [a, true_and]
      rw [e, sumN_dist (by omega) n0 fun x => sumN n fun j => if x + j < d s then (1 : Int) else 0]
      exact tri_sum (d s) n (by omega)
    · rw [if_neg a, sumN_congr (h := fun _ => (0 : Int)) (fun u _ => by rw [sumN_congr (h := fun _ => (0 : Int)) (fun j _ => if_neg fun z => a z.1), sumN_zero]), sumN_zero]
      rfl
  have C := psd_sum P n0
  have D : sumN n (fun u => psd n o h d u * psd n o h d u + psd n o h d u) ≤ sumN n (fun u => 2 * sumN n (fun j => sumN n (ev n o h d u j))) := sumN_le A
  rw [sumN_mul, B, sumN_add] at D
  have E : sumN n (fun s => if o s then (d s : Int) * (d s + 1) else 0) = sumN n (fun s => if o s then (d s : Int) * d s else 0) + sumN n fun s => if o s then (d s : Int) else 0 := by
    rw [← sumN_add]
    refine sumN_congr fun s _ => ?_
    by_cases a : o s
    · simp only [a, if_true]; rw [Int.mul_add]; omega
    · simp only [a, if_false]; rfl
  rw [E] at D
  have F : sumN n (psd n o h d) = sumN n (fun u => psd n o h d u) := rfl
  omega
end ML
namespace DL
open PySem PySem.Spec PyProof.Rows L2 LamX PySem.W SL
def hm (hs : List Nat) (k : Nat) : Nat := hs.getD k 0
def lineP (n : Nat) (hs : List Nat) : List (List Int) := hs.map fun h : Nat => lineI n (h : Int)
structure Lin (m n : Nat) (hs : List Nat) (P : List (List Int)) (R : List (List (List Int))) : Prop where
  s : Setg m n P R
  len : hs.length = m
  lt : ∀ h ∈ hs, h < n
  p : P = lineP n hs
  n0 : 0 < n
section
variable {m n : Nat} {hs : List Nat} {P : List (List Int)} {R : List (List (List Int))}
theorem Lin.hm_lt (S : Lin m n hs P R) {k : Nat} (hk : k < m) : hm hs k < n := S.lt _ (getD_memL (by rw [S.len]; exact hk))
theorem Lin.pr (S : Lin m n hs P R) {a i : Nat} (ha : a < m) (hi : i < n) : DL.pr P a i = (hm hs a + i) % n := by
  have e : P.getD a [] = lineI n ((hm hs a : Nat) : Int) := by
    rw [S.p]
    unfold lineP hm
    rw [List.getD_eq_getElem?_getD, List.getD_eq_getElem?_getD, List.getElem?_map, List.getElem?_eq_getElem (by rw [S.len]; exact ha)]
    rfl
  unfold DL.pr
  rw [e]
  unfold lineI
  rw [List.getD_eq_getElem?_getD, List.getElem?_map, List.getElem?_range hi]
  show ((((hm hs a : Nat) : Int) + ((i : Nat) : Int)) % (n : Int)).toNat = _
  rw [← Int.natCast_add, ← Int.natCast_emod]
  rfl
theorem Lin.rk (S : Lin m n hs P R) {a s : Nat} (ha : a < m) (hs' : s < n) : DL.rk P a s = ML.dist n (hm hs a) s := by
  have h1 := S.hm_lt ha
  have l := ML.dist_lt (n := n) (a := hm hs a) (i := s) S.n0
  have e := S.pr ha l
  have z := (ML.dist_eq (n := n) h1 hs' l).mp rfl
  rw [← z] at e
  have w := S.s.rk_pr ha l
  rw [e] at w
  exact w
def tm (n : Nat) (hs : List Nat) (sl : List Int) (u s : Nat) : Int := if 0 ≤ sl.getD s (-1) ∧ ML.dist n (hm hs (sl.getD s (-1)).toNat) u + 0 < ML.dist n (hm hs (sl.getD s (-1)).toNat) s then 1 else 0
def pa (n : Nat) (hs : List Nat) (sl : List Int) (u : Nat) : Int := ML.sumN n (tm n hs sl u)
def one (b : Bool) : Int := if b then 1 else 0
theorem At.getD {sl : List Int} {s k : Nat} (h : At sl s k) : sl.getD s (-1) = (k : Int) := by
  unfold At at h
  rw [List.getD_eq_getElem?_getD, h]
  rfl
theorem tm_at {sl : List Int} {s k u : Nat} (h : At sl s k) : tm n hs sl u s = one (decide (ML.dist n (hm hs k) u < ML.dist n (hm hs k) s)) := by
  unfold tm one
  rw [h.getD]
  have e : ((k : Nat) : Int).toNat = k := by omega
  rw [e]
  by_cases q : ML.dist n (hm hs k) u < ML.dist n (hm hs k) s
  · rw [if_pos ⟨by omega, by omega⟩, decide_eq_true q]; rfl
  · rw [if_neg (fun z => q (by have := z.2; omega)), decide_eq_false q]; rfl
theorem tm_no {sl : List Int} {s u : Nat} (h : sl[s]? = some (-1)) : tm n hs sl u s = 0 := by
  unfold tm
  rw [List.getD_eq_getElem?_getD, h]
  exact if_neg fun z => absurd z.1 (by decide)
theorem sumN_upd {x : Nat} {g g' : Nat → Int} : ∀ {n : Nat}, x < n → (∀ s, s < n → s ≠ x → g' s = g s) → ML.sumN n g' = ML.sumN n g - g x + g' x
  | 0, h, _ => absurd h (Nat.not_lt_zero _)
  | n + 1, h, e => by
    show ML.sumN n g' + g' n = ML.sumN n g + g n - g x + g' x
    by_cases q : x = n
    · subst q
      rw [ML.sumN_congr (h := g) fun i hi => e i (by omega) (by omega)]
      omega
    · rw [sumN_upd (n := n) (by omega) fun s hs => e s (by omega), e n (by omega) (fun z => q z.symm)]
      omega
theorem tm_set {sl : List Int} {x a u s : Nat} (ne : s ≠ x) : tm n hs (sl.set x (a : Int)) u s = tm n hs sl u s := by
  have e : (sl.set x (a : Int)).getD s (-1) = sl.getD s (-1) := by
    rw [List.getD_eq_getElem?_getD, List.getD_eq_getElem?_getD, List.getElem?_set_ne (fun z => ne z.symm)]
  unfold tm
  rw [e]
theorem at_set_self {sl : List Int} {x a : Nat} (h : x < sl.length) : At (sl.set x (a : Int)) x a := List.getElem?_set_self h
theorem pa_set {sl : List Int} {x a u : Nat} (l : sl.length = n) (hx : x < n) : pa n hs (sl.set x (a : Int)) u = pa n hs sl u - tm n hs sl u x + one (decide (ML.dist n (hm hs a) u < ML.dist n (hm hs a) x)) := by
  unfold pa
  rw [sumN_upd hx fun s _ ne => tm_set ne, tm_at (at_set_self (by omega))]
structure FE (n : Nat) (sl : List Int) (x t : Nat) : Prop where
  lt : t < n
  tk : ∀ j, j < t → ∃ k, At sl ((x + j) % n) k
  free : sl[(x + t) % n]? = some (-1)
theorem one_succ {a b : Nat} : one (decide (a < b + 1)) = one (decide (a < b)) + one (decide (a = b)) := by
  unfold one
  by_cases h1 : a < b
  · rw [decide_eq_true h1, decide_eq_true (show a < b + 1 by omega), decide_eq_false (show ¬ a = b by omega)]; rfl
  · by_cases h2 : a = b
    · rw [decide_eq_true h2, decide_eq_true (show a < b + 1 by omega), decide_eq_false h1]; rfl
    · rw [decide_eq_false h2, decide_eq_false (show ¬ a < b + 1 by omega), decide_eq_false h1]; rfl
theorem one_iff {p q : Prop} [Decidable p] [Decidable q] (h : p ↔ q) : one (decide p) = one (decide q) := by
  by_cases z : p
  · rw [decide_eq_true z, decide_eq_true (h.mp z)]
  · rw [decide_eq_false z, decide_eq_false fun w => z (h.mpr w)]
theorem dist_next {x u : Nat} (hx : x < n) (hu : u < n) (ne : u ≠ x) : ML.dist n ((x + 1) % n) u + 1 = ML.dist n x u := by
  unfold ML.dist
  by_cases e : x + 1 = n
  · rw [e, Nat.mod_self, Nat.sub_zero]
    have e1 : (u + n) % n = u := by rw [Nat.add_mod_right, Nat.mod_eq_of_lt hu]
    have e2 : (u + (n - x)) % n = u + 1 := by
      rw [show u + (n - x) = u + 1 by omega]
      exact Nat.mod_eq_of_lt (by omega)
    rw [e1, e2]
  · rw [Nat.mod_eq_of_lt (show x + 1 < n by omega)]
    by_cases q : u < x
    · rw [Nat.mod_eq_of_lt (show u + (n - (x + 1)) < n by omega), Nat.mod_eq_of_lt (show u + (n - x) < n by omega)]
      omega
    · have a1 : u + (n - (x + 1)) = (u - (x + 1)) + n := by omega
      have a2 : u + (n - x) = (u - x) + n := by omega
      rw [a1, a2, Nat.add_mod_right, Nat.add_mod_right, Nat.mod_eq_of_lt (by omega), Nat.mod_eq_of_lt (by omega)]
      omega
theorem dist_self {x : Nat} (n0 : 0 < n) (hx : x < n) : ML.dist n x x = 0 := (ML.dist_zero hx hx).mpr rfl
theorem dist_back {x : Nat} (hx : x < n) : ML.dist n ((x + 1) % n) x = n - 1 := by
  unfold ML.dist
  by_cases e : x + 1 = n
  · rw [e, Nat.mod_self, Nat.sub_zero, Nat.add_mod_right, Nat.mod_eq_of_lt hx]
    omega
  · rw [Nat.mod_eq_of_lt (show x + 1 < n by omega), Nat.mod_eq_of_lt (by omega)]
    omega
theorem one_next {x u t : Nat} (hx : x < n) (hu : u < n) (ht : t + 1 < n) : one (decide (ML.dist n x u < t + 1)) = one (decide (u = x)) + one (decide (ML.dist n ((x + 1) % n) u < t)) := by
  by_cases e : u = x
  · subst e
    have d0 := dist_self (n := n) (by omega) hx
    have d1 := dist_back hx
    unfold one
    rw [d0, d1, decide_eq_true (show 0 < t + 1 by omega), decide_eq_true rfl, decide_eq_false (show ¬ n - 1 < t by omega)]
    rfl
  · have d := dist_next hx hu e
    rw [one_iff (p := ML.dist n x u < t + 1) (q := ML.dist n ((x + 1) % n) u < t) (by omega)]
    unfold one
    rw [decide_eq_false e]
    simp
theorem FE.next {sl : List Int} {x t a : Nat} (F : FE n sl x (t + 1)) (hx : x < n) (l : sl.length = n) : FE n (sl.set x (a : Int)) ((x + 1) % n) t ∧ FE n sl ((x + 1) % n) t := by
  have lt := F.lt
  have e : ∀ j, ((x + 1) % n + j) % n = (x + (j + 1)) % n := fun j => by rw [Nat.mod_add_mod, show x + 1 + j = x + (j + 1) by omega]
  refine ⟨⟨by omega, fun j hj => ?_, ?_⟩, ⟨by omega, fun j hj => ?_, ?_⟩⟩
  · rw [e]
    obtain ⟨k, hk⟩ := F.tk (j + 1) (by omega)
    exact taken_set (by omega) hk
  · rw [e, List.getElem?_set_ne]
    · exact F.free
    · intro z
      by_cases q : x + (t + 1) < n
      · rw [Nat.mod_eq_of_lt q] at z
        omega
      · rw [show x + (t + 1) = (x + (t + 1) - n) + n by omega, Nat.add_mod_right, Nat.mod_eq_of_lt (by omega)] at z
        omega
  · rw [e]
    exact F.tk (j + 1) (by omega)
  · rw [e]
    exact F.free
theorem insG_line (S : Lin m n hs P R) : ∀ (f : Nat) (sl : List Int) (a i t : Nat) (L : List Int) (p : List (Nat × Nat)), Go m n P sl a i → insG P R f sl a i = some (L, p) → FE n sl (DL.pr P a i) t →
    (∀ s, s < n → ((∃ k, At L s k) ↔ (∃ k, At sl s k) ∨ s = (DL.pr P a i + t) % n)) ∧ ∀ u, u < n → pa n hs L u = pa n hs sl u + one (decide (ML.dist n (hm hs a) u < i)) + one (decide (ML.dist n (DL.pr P a i) u < t))
  | 0, _, _, _, _, _, _, _, e, _ => by simp [insG] at e
  | f + 1, sl, a, i, t, L, p, G, e, F => by
    have n0 := S.n0
    have xa := S.pr G.ha G.hi
    have hx : DL.pr P a i < n := (S.s.pr_at G.ha G.hi).2
    have ha := S.hm_lt G.ha
    have l := G.g.lay.len
    have di : ML.dist n (hm hs a) (DL.pr P a i) = i := by rw [← S.rk G.ha hx, S.s.rk_pr G.ha G.hi]
    have eqx : ∀ u, u < n → (ML.dist n (hm hs a) u = i ↔ u = DL.pr P a i) := fun u hu => by
      rw [ML.dist_eq ha hu G.hi, xa]
    rcases G.g.lay.either hx with fr | ⟨k, tk⟩
    · have t0 : t = 0 := by
        cases t with
        | zero => rfl
        | succ t =>
          obtain ⟨k, hk⟩ := F.tk 0 (by omega)
          rw [Nat.add_zero, Nat.mod_eq_of_lt hx] at hk
          exact absurd fr hk.ne
      subst t0
      rw [insG_free fr] at e
      obtain ⟨rfl, rfl⟩ := Prod.mk.inj (Option.some.inj e)
      refine ⟨fun s hs' => ?_, fun u hu => ?_⟩
      · rw [Nat.add_zero, Nat.mod_eq_of_lt hx]
        constructor
        · rintro ⟨k, hk⟩
          rcases (at_set (by omega)).mp hk with ⟨z, _⟩ | ⟨_, z⟩
          · exact .inr z
          · exact .inl ⟨k, z⟩
        · rintro (⟨k, hk⟩ | z)
          · exact taken_set (by omega) hk
          · exact ⟨a, (at_set (by omega)).mpr (.inl ⟨z, rfl⟩)⟩
      · rw [pa_set l hx, tm_no fr, di]
        have z : one (decide (ML.dist n (DL.pr P a i) u < 0)) = 0 := by unfold one; rw [decide_eq_false (Nat.not_lt_zero _)]; rfl
        rw [z]
        omega
    · obtain ⟨t, rfl⟩ : ∃ t', t = t' + 1 := by
        cases t with
        | zero =>
          have z := F.free
          rw [Nat.add_zero, Nat.mod_eq_of_lt hx] at z
          exact absurd z tk.ne
        | succ t => exact ⟨t, rfl⟩
      obtain ⟨F1, F2⟩ := F.next (a := a) hx l
      have lt := F.lt
      have km := G.g.lay.key tk
      rw [insG_taken tk] at e
      by_cases b : bt R (DL.pr P a i) a k = true
      · rw [if_pos b] at e
        obtain ⟨⟨L', p'⟩, e1, e2⟩ := Option.map_eq_some_iff.mp e
        obtain ⟨rfl, rfl⟩ := Prod.mk.inj e2
        have G2 := G.swap S.s tk
        have xk : DL.pr P k (DL.rk P k (DL.pr P a i) + 1) = (DL.pr P a i + 1) % n := by
          rw [S.pr km.1 G2.hi, S.rk km.1 hx]
          have z := (ML.dist_eq (n := n) (S.hm_lt km.1) hx (ML.dist_lt n0)).mp rfl
          rw [← Nat.add_assoc, ← Nat.mod_add_mod, ← z]
        rw [← xk] at F1
        obtain ⟨A, B⟩ := insG_line S f _ k _ t _ _ G2 e1 F1
        rw [xk] at A B
        refine ⟨fun s hs' => ?_, fun u hu => ?_⟩
        · rw [A s hs', Nat.mod_add_mod, show DL.pr P a i + 1 + t = DL.pr P a i + (t + 1) by omega]
          constructor
          · rintro (⟨k', hk⟩ | z)
            · rcases (at_set (by omega)).mp hk with ⟨z, _⟩ | ⟨_, z⟩
              · rw [z]; exact .inl ⟨k, tk⟩
              · exact .inl ⟨k', z⟩
            · exact .inr z
          · rintro (⟨k', hk⟩ | z)
            · exact .inl (taken_set (by omega) hk)
            · exact .inr z
        · rw [B u hu, pa_set l hx, tm_at tk, di, S.rk km.1 hx, one_succ, one_next hx hu lt]
          have z : one (decide (ML.dist n (hm hs k) u = ML.dist n (hm hs k) (DL.pr P a i))) = one (decide (u = DL.pr P a i)) := one_iff ⟨fun e => S.s.rk_inj km.1 hu hx (by rw [S.rk km.1 hu, S.rk km.1 hx]; exact e), fun e => by rw [e]⟩
          rw [z]
          omega
      · rw [if_neg b] at e
        have G2 := G.on S.s tk
        have xk : DL.pr P a (i + 1) = (DL.pr P a i + 1) % n := by
          rw [S.pr G.ha G2.hi, xa, Nat.mod_add_mod, Nat.add_assoc]
        rw [← xk] at F2
        obtain ⟨A, B⟩ := insG_line S f _ a _ t _ _ G2 e F2
        rw [xk] at A B
        refine ⟨fun s hs' => ?_, fun u hu => ?_⟩
        · rw [A s hs', Nat.mod_add_mod, show DL.pr P a i + 1 + t = DL.pr P a i + (t + 1) by omega]
        · rw [B u hu, one_succ, one_next hx hu lt, one_iff (eqx u hu)]
          omega
end
end DL
namespace DL
open PySem PySem.Spec PyProof.Rows L2 LamX PySem.W SL
end DL
namespace DL
open PySem PySem.Spec PyProof.Rows L2 LamX PySem.W SL
theorem clos_rows (n : Nat) : ∀ P : List (List Int), clos n (P.map rowD) = true
  | [] => rfl
  | x :: r => by
    rw [List.map_cons]
    show (clo n (rowD x) && clos n (r.map rowD)) = true
    rw [clos_rows n r, Bool.and_true]
    simp only [rowD, clo]
    exact clos_ints n x
end DL
namespace DL
open PySem PySem.Spec PyProof.Rows L2 LamX PySem.W SL
end DL
namespace DL
open PySem PySem.Spec PyProof.Rows L2 LamX PySem.W SL
end DL
namespace DL
open PySem PySem.Spec PyProof.Rows L2 LamX PySem.W SL
theorem sumL_range (m : Nat) (g : Nat → Int) : ML.sumL ((List.range m).map g) = ML.sumN m g := by
  induction m with
  | zero => rfl
  | succ m ih =>
    rw [List.range_succ, List.map_append, ML.sumL_append, ih]
    show _ + (g m + 0) = _ + g m
    omega
theorem sumL_flat {α : Type} (l : List α) (f : α → List Int) : ML.sumL (l.flatMap f) = ML.sumL (l.map fun x => ML.sumL (f x)) := by
  induction l with
  | nil => rfl
  | cons x r ih =>
    rw [List.flatMap_cons, ML.sumL_append, ih]
    rfl
theorem sumN_more {m m' : Nat} {g h : Nat → Int} (le : m ≤ m') (gh : ∀ i, i < m → g i ≤ h i) (h0 : ∀ i, 0 ≤ h i) : ML.sumN m g ≤ ML.sumN m' h := by
  induction m' with
  | zero => rw [Nat.le_zero.mp le]; exact Int.le_refl _
  | succ k ih =>
    show ML.sumN m g ≤ ML.sumN k h + h k
    rcases Nat.lt_or_ge m (k + 1) with q | q
    · have := ih (by omega)
      have := h0 k
      omega
    · have e : m = k + 1 := by omega
      subst e
      show ML.sumN k g + g k ≤ _
      have := ML.sumN_le (n := k) fun i hi => gh i (by omega)
      have := gh k (by omega)
      omega
theorem sqSum_waits (c : List Int) : sqSum (waitsI c) = ML.sumN c.length fun s => ML.sumN (c.getD s 0).toNat fun k => (ML.cy (ML.flowsI c) (s + (c.length - 1)) + (k : Int)) * (ML.cy (ML.flowsI c) (s + (c.length - 1)) + (k : Int)) := by
  unfold sqSum waitsI
  rw [List.map_flatMap, sumL_flat, sumL_range]
  refine ML.sumN_congr fun s _ => ?_
  rw [List.map_map, ← sumL_range]
  rfl
theorem sq_mono {a b : Int} (h0 : 0 ≤ a) (h : a ≤ b) : a * a ≤ b * b := Int.mul_le_mul h h h0 (Int.le_trans h0 h)
theorem More.flow_le {c : List Int} {a L : Nat} (m : More c a L) (i : Nat) : ML.cy (ML.flowsI c) i ≤ ML.cy (ML.flowsI (plus c a)) i := by
  have lF := ML.flowsI_length c
  have n0 := m.hc.pos
  unfold ML.cy
  rw [m.flows, addL_length, lF]
  have lm := Nat.mod_lt i n0
  rw [addL_at (by rw [lF]; exact lm)]
  split <;> omega
theorem plus_ge {c : List Int} {a : Nat} (ha : a < c.length) {s : Nat} (hs : s < c.length) : c.getD s 0 ≤ (plus c a).getD s 0 := by
  unfold plus
  by_cases e : s = a
  · subst e
    rw [List.getD_eq_getElem?_getD (l := c.set s _), List.getElem?_set_self hs]
    show _ ≤ c.getD s 0 + 1
    omega
  · rw [List.getD_eq_getElem?_getD (l := c.set a _), List.getElem?_set_ne (fun z => e z.symm), ← List.getD_eq_getElem?_getD]
    exact Int.le_refl _
theorem More.sq {c : List Int} {a L : Nat} (m : More c a L) : sqSum (waitsI c) ≤ sqSum (waitsI (plus c a)) := by
  rw [sqSum_waits, sqSum_waits, plus_length]
  refine ML.sumN_le fun s hs => ?_
  have pg := plus_ge m.ha hs
  refine sumN_more (by omega) (fun k _ => sq_mono ?_ ?_) fun k => ?_
  · have := m.hc.flow.nn (s + (c.length - 1)); omega
  · have := m.flow_le (s + (c.length - 1)); omega
  · have f0 := (plus_cnt m.hc m.ha m.lt).flow.nn (s + (c.length - 1))
    exact Int.mul_nonneg (by omega) (by omega)
theorem waits_lt {c : List Int} (hc : Cnt c) : ∀ x ∈ waitsI c, 0 ≤ x ∧ x ≤ 2 * c.length := by
  intro x hx
  have n0 := hc.pos
  unfold waitsI at hx
  obtain ⟨s, hs, hx⟩ := List.mem_flatMap.mp hx
  obtain ⟨k, hk, rfl⟩ := List.mem_map.mp hx
  have ls := List.mem_range.mp hs
  have lk := List.mem_range.mp hk
  have z := hc.le (getD_mem ls)
  have f := hc.fl _ (getD_mem (l := ML.flowsI c) (i := (s + (c.length - 1)) % (ML.flowsI c).length) (by rw [ML.flowsI_length]; exact Nat.mod_lt _ n0))
  unfold ML.cy
  omega
theorem sem_sq (ds : List D) (st : DSt) (Q : DK) (h : g_sq ds st Q) : F_square_sum g_waits { nx := fun _ st' => Rt st Q .non st', rt := Rt st Q } (startD 2 ds) st := by
  obtain ⟨c, rfl, hc, q⟩ := h
  have st2 : startD 2 [rowD c] = [some (.tup (c.map D.int)), none] := rfl
  have big : (1000 : Nat) ≤ sizeLine := by decide
  have wl := waits_len hc
  have few := hc.few
  simp only [F_square_sum, st2, e_var, e_C, e_op, e_neg, e_isN, e_notN, e_and, e_or, e_not, e_test, e_tAnd, e_tOr, e_tNot, e_tYes, e_if, e_aNil, e_aCons, e_tup, e_lst, e_lstN, e_len0, e_len1, e_len2, e_len3, e_len4, e_len5, e_cb, e_on1, e_on2, e_onI, e_onB, e_onO, e_onO0, e_onOO, e_I0, e_I, e_add, e_addT, e_addS, e_addL, e_addLR, e_addRL, e_addRR, e_mul, e_mulL, e_mulT, e_rev, e_revT, e_ix, e_eqI, e_eqS, e_eqB, e_neI, e_neS, e_neB, e_ltI, e_chain, e_len, e_abs, e_2I, e_tuple1, e_tuple2, e_tuple3, e_listT, e_listN, e_allR, e_seqT, e_seqK, e_seqL, e_isi, e_isB, e_notB, e_truth, e_next, e_seq, e_drop, e_ret, e_retN, e_ifS, e_set, e_asg, e_par, e_nm, e_gsN, e_gsC, e_gTpK, e_gTpL, e_sum, e_maxL, e_minL, e_maxDef, e_int, e_intB, e_aug, e_on3, e_par3, e_newK, e_getK, e_keyI, e_keyS, e_inK, e_ninK, e_putK, e_lenK, e_lstS, e_seqX, e_gTpT, e_oN, e_oS, e_sl, e_slT, e_slL, e_finT, e_finN, e_index, e_idxT, e_idxL, e_mIx, e_ixST, e_ixSL, e_mtL, e_w, e_w1, e_w2, e_wE, e_wZ, e_itK, e_itT, e_itL, e_itT2, e_itL2, e_lc, e_for, e_wipe0, e_wipe, e_okI, e_okR, e_gSb, List.getElem?_cons_zero, List.getElem?_cons_succ, List.set_cons_zero, List.set_cons_succ]
  refine ⟨c, rfl, hc, ?_⟩
  try simp only [e_var, e_C, e_op, e_neg, e_isN, e_notN, e_and, e_or, e_not, e_test, e_tAnd, e_tOr, e_tNot, e_tYes, e_if, e_aNil, e_aCons, e_tup, e_lst, e_lstN, e_len0, e_len1, e_len2, e_len3, e_len4, e_len5, e_cb, e_on1, e_on2, e_onI, e_onB, e_onO, e_onO0, e_onOO, e_I0, e_I, e_add, e_addT, e_addS, e_addL, e_addLR, e_addRL, e_addRR, e_mul, e_mulL, e_mulT, e_rev, e_revT, e_ix, e_eqI, e_eqS, e_eqB, e_neI, e_neS, e_neB, e_ltI, e_chain, e_len, e_abs, e_2I, e_tuple1, e_tuple2, e_tuple3, e_listT, e_listN, e_allR, e_seqT, e_seqK, e_seqL, e_isi, e_isB, e_notB, e_truth, e_next, e_drop, e_ret, e_retN, e_ifS, e_set, e_asg, e_par, e_nm, e_gsN, e_gsC, e_gTpK, e_gTpL, e_sum, e_maxL, e_minL, e_maxDef, e_int, e_intB, e_aug, e_on3, e_par3, e_newK, e_getK, e_keyI, e_keyS, e_inK, e_ninK, e_putK, e_lenK, e_lstS, e_seqX, e_gTpT, e_oN, e_oS, e_sl, e_slT, e_slL, e_finT, e_finN, e_index, e_idxT, e_idxL, e_mIx, e_ixST, e_ixSL, e_mtL, e_w, e_w1, e_w2, e_wE, e_wZ, e_itK, e_itT, e_itL, e_itT2, e_itL2, e_lc, e_for, e_wipe0, e_wipe, e_okI, e_okR, e_gSb, List.getElem?_cons_zero, List.getElem?_cons_succ, List.set_cons_zero, List.set_cons_succ, List.length_map]
  refine ⟨by omega, ?_⟩
  refine compL_gen D.int (fun x => .int (x * x)) (waitsI c) [] (fun x hx Q' k => k _ fun Q2 q2 => ?_) ?_
  · have := waits_lt hc x hx
    try simp only [e_var, e_C, e_op, e_neg, e_isN, e_notN, e_and, e_or, e_not, e_test, e_tAnd, e_tOr, e_tNot, e_tYes, e_if, e_aNil, e_aCons, e_tup, e_lst, e_lstN, e_len0, e_len1, e_len2, e_len3, e_len4, e_len5, e_cb, e_on1, e_on2, e_onI, e_onB, e_onO, e_onO0, e_onOO, e_I0, e_I, e_add, e_addT, e_addS, e_addL, e_addLR, e_addRL, e_addRR, e_mul, e_mulL, e_mulT, e_rev, e_revT, e_ix, e_eqI, e_eqS, e_eqB, e_neI, e_neS, e_neB, e_ltI, e_chain, e_len, e_abs, e_2I, e_tuple1, e_tuple2, e_tuple3, e_listT, e_listN, e_allR, e_seqT, e_seqK, e_seqL, e_isi, e_isB, e_notB, e_truth, e_next, e_drop, e_ret, e_retN, e_ifS, e_set, e_asg, e_par, e_nm, e_gsN, e_gsC, e_gTpK, e_gTpL, e_sum, e_maxL, e_minL, e_maxDef, e_int, e_intB, e_aug, e_on3, e_par3, e_newK, e_getK, e_keyI, e_keyS, e_inK, e_ninK, e_putK, e_lenK, e_lstS, e_seqX, e_gTpT, e_oN, e_oS, e_sl, e_slT, e_slL, e_finT, e_finN, e_index, e_idxT, e_idxL, e_mIx, e_ixST, e_ixSL, e_mtL, e_w, e_w1, e_w2, e_wE, e_wZ, e_itK, e_itT, e_itL, e_itT2, e_itL2, e_lc, e_for, e_wipe0, e_wipe, e_okI, e_okR, e_gSb, List.getElem?_cons_zero, List.getElem?_cons_succ, List.set_cons_zero, List.set_cons_succ]
    exact ⟨.inl ⟨by omega, by omega⟩, q2⟩
  rw [List.nil_append]
  try simp only [e_var, e_C, e_op, e_neg, e_isN, e_notN, e_and, e_or, e_not, e_test, e_tAnd, e_tOr, e_tNot, e_tYes, e_if, e_aNil, e_aCons, e_tup, e_lst, e_lstN, e_len0, e_len1, e_len2, e_len3, e_len4, e_len5, e_cb, e_on1, e_on2, e_onI, e_onB, e_onO, e_onO0, e_onOO, e_I0, e_I, e_add, e_addT, e_addS, e_addL, e_addLR, e_addRL, e_addRR, e_mul, e_mulL, e_mulT, e_rev, e_revT, e_ix, e_eqI, e_eqS, e_eqB, e_neI, e_neS, e_neB, e_ltI, e_chain, e_len, e_abs, e_2I, e_tuple1, e_tuple2, e_tuple3, e_listT, e_listN, e_allR, e_seqT, e_seqK, e_seqL, e_isi, e_isB, e_notB, e_truth, e_next, e_drop, e_ret, e_retN, e_ifS, e_set, e_asg, e_par, e_nm, e_gsN, e_gsC, e_gTpK, e_gTpL, e_sum, e_maxL, e_minL, e_maxDef, e_int, e_intB, e_aug, e_on3, e_par3, e_newK, e_getK, e_keyI, e_keyS, e_inK, e_ninK, e_putK, e_lenK, e_lstS, e_seqX, e_gTpT, e_oN, e_oS, e_sl, e_slT, e_slL, e_finT, e_finN, e_index, e_idxT, e_idxL, e_mIx, e_ixST, e_ixSL, e_mtL, e_w, e_w1, e_w2, e_wE, e_wZ, e_itK, e_itT, e_itL, e_itT2, e_itL2, e_lc, e_for, e_wipe0, e_wipe, e_okI, e_okR, e_gSb, List.getElem?_cons_zero, List.getElem?_cons_succ, List.set_cons_zero, List.set_cons_succ, intsD_map, ML.sum_sumL]
  exact .inl q
theorem sort_app {xs : List Int} {x : Int} (h1 : xs.Pairwise (· < ·)) (h2 : ∀ y ∈ xs, y ≠ x) {ys : List Int} (h3 : ys.Pairwise (· < ·)) (h4 : ∀ y, y ∈ ys ↔ y ∈ xs ∨ y = x) : sortI (xs ++ [x]) = ys := by
  refine asc_one (sort_asc ?_) h3 fun y => ?_
  · rw [List.nodup_append]
    refine ⟨asc_nodup h1, by simp, fun a ha b hb => ?_⟩
    rw [List.mem_singleton.mp hb]
    exact h2 a ha
  · rw [(sortI_perm _).mem_iff, List.mem_append, List.mem_singleton, h4]
theorem More.taken {c : List Int} {a L : Nat} (m : More c a L) : sortI (takenI c ++ [(((a + L) % c.length : Nat) : Int)]) = takenI (plus c a) := by
  have lm := Nat.mod_lt (a + L) m.hc.pos
  refine sort_app (takenI_asc c) (fun y hy z => ?_) (takenI_asc _) fun y => ?_
  · rw [z] at hy
    have := (takenI_at lm).mp hy
    rw [m.no] at this
    cases this
  · rw [takenI_mem, takenI_mem, plus_length]
    constructor
    · rintro ⟨s, rfl, h1, h2⟩
      rcases (m.tk h1).mp h2 with z | z
      · exact .inl ⟨s, rfl, h1, z⟩
      · rw [z]; exact .inr rfl
    · rintro (⟨s, rfl, h1, h2⟩ | rfl)
      · exact ⟨s, rfl, h1, (m.tk h1).mpr (.inl h2)⟩
      · exact ⟨_, rfl, lm, (m.tk lm).mpr (.inr rfl)⟩
end DL
namespace DL
open PySem PySem.Spec PyProof.Rows L2 LamX PySem.W SL
def Dn (a b x y : Nat) : Prop := x < y ∧ (x < a ∨ (x = a ∧ y < b))
structure Half (m a b : Nat) (rs : List (List Int)) : Prop where
  len : rs.length = m
  nd : ∀ x, x < m → (rs.getD x []).Nodup
  inr : ∀ x, x < m → ∀ z ∈ rs.getD x [], ∃ y : Nat, y < m ∧ z = (y : Int) ∧ (Dn a b x y ∨ Dn a b y x)
  one : ∀ x y, x < m → y < m → Dn a b x y → ((y : Int) ∈ rs.getD x [] ↔ ¬ (x : Int) ∈ rs.getD y [])
theorem Half.congr {m a b c d : Nat} {rs : List (List Int)} (h : Half m a b rs) (e : ∀ x y, x < m → y < m → (Dn a b x y ↔ Dn c d x y)) : Half m c d rs :=
  ⟨h.len, h.nd, fun x hx z hz => by
    obtain ⟨y, hy, ez, q⟩ := h.inr x hx z hz
    exact ⟨y, hy, ez, q.imp (e x y hx hy).mp (e y x hy hx).mp⟩, fun x y hx hy q => h.one x y hx hy ((e x y hx hy).mpr q)⟩
theorem Half.start (m : Nat) : Half m 0 0 (List.replicate m []) := by
  have z : ∀ x, (List.replicate m ([] : List Int)).getD x [] = [] := fun x => by
    rw [List.getD_eq_getElem?_getD, List.getElem?_replicate]
    split <;> rfl
  refine ⟨by simp, fun x hx => by rw [z]; exact List.nodup_nil, fun x hx y hy => ?_, fun x y hx hy q => ?_⟩
  · rw [z] at hy
    cases hy
  · unfold Dn at q
    omega
theorem mem_setD {rs : List (List Int)} {u x : Nat} {v z : Int} (h : u < rs.length) : z ∈ (rs.set u (rs.getD u [] ++ [v])).getD x [] ↔ z ∈ rs.getD x [] ∨ (x = u ∧ z = v) := by
  by_cases e : x = u
  · subst e
    rw [List.getD_eq_getElem?_getD (l := rs.set _ _), List.getElem?_set_self h]
    show z ∈ rs.getD x [] ++ [v] ↔ _
    rw [List.mem_append, List.mem_singleton]
    simp
  · rw [List.getD_eq_getElem?_getD (l := rs.set _ _), List.getElem?_set_ne (fun w => e w.symm), ← List.getD_eq_getElem?_getD]
    simp [e]
theorem Half.step {m a b u v : Nat} {rs : List (List Int)} (h : Half m a b rs) (ab : a < b) (hb : b < m) (uv : (u = a ∧ v = b) ∨ (u = b ∧ v = a)) : Half m a (b + 1) (rs.set u (rs.getD u [] ++ [(v : Int)])) := by
  have hu : u < rs.length := by rw [h.len]; omega
  have nv : ¬ (v : Int) ∈ rs.getD u [] := fun z => by
    obtain ⟨y, hy, ez, q⟩ := h.inr u (by omega) _ z
    unfold Dn at q
    omega
  have nu : ¬ (u : Int) ∈ rs.getD v [] := fun z => by
    obtain ⟨y, hy, ez, q⟩ := h.inr v (by omega) _ z
    unfold Dn at q
    omega
  refine ⟨by rw [List.length_set]; exact h.len, fun x hx => ?_, fun x hx z hz => ?_, fun x y hx hy q => ?_⟩
  · by_cases e : x = u
    · subst e
      rw [List.getD_eq_getElem?_getD (l := rs.set _ _), List.getElem?_set_self hu]
      show (rs.getD x [] ++ [(v : Int)]).Nodup
      rw [List.nodup_append]
      refine ⟨h.nd x hx, by simp, fun a ha b hb => ?_⟩
      rw [List.mem_singleton.mp hb]
      rintro rfl
      exact nv ha
    · rw [List.getD_eq_getElem?_getD (l := rs.set _ _), List.getElem?_set_ne (fun w => e w.symm), ← List.getD_eq_getElem?_getD]
      exact h.nd x hx
  · rcases (mem_setD hu).mp hz with q | ⟨e1, e2⟩
    · obtain ⟨y, hy, ez, q⟩ := h.inr x hx z q
      refine ⟨y, hy, ez, ?_⟩
      unfold Dn at q ⊢
      omega
    · refine ⟨v, by omega, e2, ?_⟩
      unfold Dn
      omega
  · rw [mem_setD hu, mem_setD hu]
    by_cases e : x = a ∧ y = b
    · obtain ⟨rfl, rfl⟩ := e
      rcases uv with ⟨rfl, rfl⟩ | ⟨rfl, rfl⟩
      · constructor
        · rintro _ (z | ⟨z, _⟩)
          · exact nu z
          · omega
        · exact fun _ => .inr ⟨rfl, rfl⟩
      · constructor
        · rintro (z | ⟨z, _⟩) _
          · exact nu z
          · omega
        · exact fun z => absurd (.inr ⟨rfl, rfl⟩) z
    · have q' : Dn a b x y := by unfold Dn at q ⊢; omega
      have z := h.one x y hx hy q'
      have w1 : ¬ (x = u ∧ (y : Int) = (v : Int)) := fun w => by unfold Dn at q'; omega
      have w2 : ¬ (y = u ∧ (x : Int) = (v : Int)) := fun w => by unfold Dn at q'; omega
      simp only [w1, w2, or_false]
      exact z
theorem Half.tb {m : Nat} {rs : List (List Int)} (h : Half m m m rs) : Tb m (rs.map sortI) := by
  have g : ∀ x, x < m → (rs.map sortI).getD x [] = sortI (rs.getD x []) := fun x hx => by
    rw [List.getD_eq_getElem?_getD, List.getElem?_map, List.getD_eq_getElem?_getD, List.getElem?_eq_getElem (by rw [h.len]; exact hx)]
    rfl
  have mm : ∀ x, x < m → ∀ z, z ∈ (rs.map sortI).getD x [] ↔ z ∈ rs.getD x [] := fun x hx z => by rw [g x hx, (sortI_perm _).mem_iff]
  refine ⟨by rw [List.length_map]; exact h.len, fun x hx => ?_, fun x hx z hz => ?_, fun x y hx hy => ?_⟩
  · rw [g x hx]
    exact sort_asc (h.nd x hx)
  · obtain ⟨y, hy, ez, _⟩ := h.inr x hx z ((mm x hx z).mp hz)
    omega
  · unfold dec
    by_cases e : x = y
    · rw [if_pos e]
      have z : ¬ (x : Int) ∈ (rs.map sortI).getD x [] := fun q => by
        obtain ⟨y, hy, ez, q⟩ := h.inr x hx _ ((mm x hx _).mp q)
        unfold Dn at q
        omega
      rw [decide_eq_false z]
      rfl
    · rw [if_neg e]
      simp only [mm x hx, mm y hy]
      have z : ((y : Int) ∈ rs.getD x [] ↔ ¬ (x : Int) ∈ rs.getD y []) := by
        rcases Nat.lt_or_gt_of_ne e with q | q
        · exact h.one x y hx hy ⟨q, .inl hx⟩
        · have := h.one y x hy hx ⟨q, .inl hy⟩
          constructor
          · exact fun a b => this.mp b a
          · exact fun a => Classical.byContradiction fun b => a (this.mpr b)
      by_cases q : (x : Int) ∈ rs.getD y []
      · rw [decide_eq_true q, decide_eq_false fun w => z.mp w q]; rfl
      · rw [decide_eq_false q, decide_eq_true (z.mpr q)]; rfl
theorem fin_lst {Q : DK} {acc : List D} {st : DSt} (q : Q (.lst acc) st) : finT Q acc st := q
end DL
namespace DL
open PySem PySem.Spec PyProof.Rows L2 LamX PySem.W SL
theorem Hist.left {m n : Nat} {a b : List Nat} (h : Hist m n (a ++ b)) : Hist m n a := by
  have nd := h.nd
  have fw := h.few
  rw [List.nodup_append] at nd
  rw [List.length_append] at fw
  exact ⟨nd.1, fun k hk => h.lt k (List.mem_append_left _ hk), by omega⟩
theorem hist_go {m n : Nat} {P : List (List Int)} {R : List (List (List Int))} (S : Setg m n P R) {dn left : List Nat} {a : Nat} (H : Hist m n (dn ++ a :: left)) : Go m n P (layF P R dn) a 0 := by
  obtain ⟨g, ks⟩ := layF_good S H.left
  have nd := H.nd
  have fw := H.few
  rw [List.nodup_append] at nd
  rw [List.length_append, List.length_cons] at fw
  exact step_go S g ks (H.lt a (by simp)) (fun z => nd.2.2 a z a (by simp) rfl) (by omega)
theorem layF_snoc {P : List (List Int)} {R : List (List (List Int))} {dn : List Nat} {a : Nat} : layF P R (dn ++ [a]) = (ins P R (layF P R dn) a).1 := by
  unfold layF
  rw [layG_app]
  rfl
end DL
namespace DL
open PySem PySem.Spec PyProof.Rows L2 LamX PySem.W SL
def cntL (n : Nat) (hs : List Nat) (h : List Nat) : List Int := (List.range n).map fun s : Nat => (((h.filter fun k => decide (hm hs k = s)).length : Nat) : Int)
theorem cntL_len (n : Nat) (hs h : List Nat) : (cntL n hs h).length = n := by unfold cntL; simp
theorem cntL_at {n s : Nat} (hs h : List Nat) (l : s < n) : (cntL n hs h).getD s 0 = (((h.filter fun k => decide (hm hs k = s)).length : Nat) : Int) := by
  unfold cntL
  rw [List.getD_eq_getElem?_getD, List.getElem?_map, List.getElem?_range l]
  rfl
theorem cntL_snoc {n a : Nat} {hs h : List Nat} (l : hm hs a < n) : cntL n hs (h ++ [a]) = plus (cntL n hs h) (hm hs a) := by
  refine getD_ext (by rw [plus_length, cntL_len, cntL_len]) fun i hi => ?_
  rw [cntL_len] at hi
  rw [cntL_at hs _ hi, List.filter_append]
  unfold plus
  by_cases e : hm hs a = i
  · subst e
    rw [List.getD_eq_getElem?_getD, List.getElem?_set_self (by rw [cntL_len]; exact l), cntL_at hs h l]
    simp
  · rw [List.getD_eq_getElem?_getD, List.getElem?_set_ne e, ← List.getD_eq_getElem?_getD, cntL_at hs h hi]
    simp [e]
theorem cntL_nil (n : Nat) (hs : List Nat) : cntL n hs [] = List.replicate n 0 := by
  refine List.ext_getElem (by rw [cntL_len]; simp) fun i h1 h2 => ?_
  unfold cntL
  simp
theorem cntL_perm {n : Nat} {hs h h2 : List Nat} (p : h.Perm h2) : cntL n hs h = cntL n hs h2 := by
  unfold cntL
  refine List.map_congr_left fun s _ => ?_
  rw [(p.filter _).length_eq]
theorem sum_plus {c : List Int} {a : Nat} (ha : a < c.length) : ML.sumL (plus c a) = ML.sumL c + 1 := by
  unfold plus
  rw [sum_set ha]
  omega
theorem sumL_rep0 : ∀ n : Nat, ML.sumL (List.replicate n 0) = 0
  | 0 => rfl
  | n + 1 => by rw [List.replicate_succ, ML.sumL_cons, sumL_rep0 n]; rfl
structure LineOk (n : Nat) (hs : List Nat) (c : List Int) (sl : List Int) : Prop where
  cnt : Cnt c
  len : c.length = n
  occ : ∀ s, s < n → ((∃ k, At sl s k) ↔ isTk c s = true)
  pas : ∀ u, u < n → pa n hs sl u = (ML.flowsI c).getD u 0
section
variable {m n : Nat} {hs : List Nat} {P : List (List Int)} {R : List (List (List Int))}
theorem cnt_zero (n0 : 0 < n) (n9 : n ≤ 900) : Cnt (List.replicate n 0) := by
  refine ⟨fun z => ?_, by simp; exact n9, fun x hx => ?_, by rw [sumL_rep0]; simp⟩
  · have := congrArg List.length z
    simp at this
    omega
  · rw [List.eq_of_mem_replicate hx]
    exact Int.le_refl 0
theorem line_rev (S : Lin m n hs P R) (n9 : n ≤ 900) : ∀ (l : Nat) (h : List Nat), h.length = l → Hist m n h → LineOk n hs (cntL n hs h) (layF P R h) ∧ ML.sumL (cntL n hs h) = h.length
  | 0, h, e, H => by
    have z : h = [] := List.length_eq_zero_iff.mp e
    subst z
    rw [cntL_nil]
    refine ⟨⟨cnt_zero S.n0 n9, by simp, fun s hs' => ?_, fun u hu => ?_⟩, by rw [sumL_rep0]; rfl⟩
    · have e1 : isTk (List.replicate n 0) s = false := by
        unfold isTk ML.cy
        rw [flows_rep0]
        have z1 : ∀ i, (List.replicate n (0 : Int)).getD i 0 = 0 := fun i => by
          rw [List.getD_eq_getElem?_getD, List.getElem?_replicate]
          split <;> rfl
        rw [z1, z1]
        rfl
      rw [e1]
      constructor
      · rintro ⟨k, hk⟩
        exact absurd hk emp_at
      · intro z
        cases z
    · rw [flows_rep0]
      have z1 : (List.replicate n (0 : Int)).getD u 0 = 0 := by
        rw [List.getD_eq_getElem?_getD, List.getElem?_replicate]
        split <;> rfl
      rw [z1]
      unfold pa
      rw [ML.sumN_congr (h := fun _ => (0 : Int)) (fun s hs' => tm_no ?_), ML.sumN_zero]
      show (emp R.length)[s]? = some (-1)
      unfold emp
      rw [List.getElem?_replicate, if_pos (by rw [S.s.rl]; exact hs')]
  | l + 1, h, e, H => by
    obtain ⟨dn, a, rfl⟩ : ∃ dn a, h = dn ++ [a] := by
      rcases List.eq_nil_or_concat h with z | ⟨dn, c, z⟩
      · rw [z] at e
        simp at e
      · exact ⟨dn, c, by rw [z, List.concat_eq_append]⟩
    have ld : dn.length = l := by simpa using e
    obtain ⟨I, sm⟩ := line_rev S n9 l dn ld H.left
    have G := hist_go S.s (dn := dn) (left := []) (a := a) H
    have am := G.ha
    have al := S.hm_lt am
    have few := H.few
    have ll := cntL_len n hs dn
    rw [List.length_append] at few
    simp only [List.length_cons, List.length_nil] at few
    obtain ⟨L, mo⟩ := more_of (a := hm hs a) I.cnt (by rw [ll]; exact al) (by rw [ll, sm]; omega)
    have Ll := mo.pas.lt
    rw [ll] at Ll
    have fe : FE n (layF P R dn) (hm hs a) L := by
      have lay := G.g.lay
      refine ⟨Ll, fun j hj => ?_, ?_⟩
      · have y := mo.yes hj
        rw [ll] at y
        exact (I.occ _ (Nat.mod_lt _ S.n0)).mpr y
      · have no := mo.no
        rw [ll] at no
        rcases lay.either (Nat.mod_lt (hm hs a + L) S.n0) with z | ⟨k, hk⟩
        · exact z
        · have w := (I.occ _ (Nat.mod_lt _ S.n0)).mp ⟨k, hk⟩
          rw [no] at w
          cases w
    have p0 : DL.pr P a 0 = hm hs a := by rw [S.pr am S.n0, Nat.add_zero, Nat.mod_eq_of_lt al]
    rw [← p0] at fe
    obtain ⟨A, B⟩ := insG_line S _ _ a 0 L (ins P R (layF P R dn) a).1 (ins P R (layF P R dn) a).2 G (ins_eq S.s G) fe
    rw [p0] at A B
    rw [cntL_snoc al, layF_snoc]
    refine ⟨⟨plus_cnt I.cnt (by rw [ll]; exact al) (by rw [ll, sm]; omega), by rw [plus_length, ll], fun s hs' => ?_, fun u hu => ?_⟩, ?_⟩
    · rw [A s hs', I.occ s hs']
      have t := mo.tk (s := s) (by rw [ll]; exact hs')
      rw [ll] at t
      exact t.symm
    · rw [B u hu, I.pas u hu, mo.flows, addL_at (by rw [ML.flowsI_length, ll]; exact hu), ML.flowsI_length, ll]
      have z : one (decide (ML.dist n (hm hs a) u < 0)) = 0 := by unfold one; rw [decide_eq_false (Nat.not_lt_zero _)]; rfl
      rw [z]
      unfold one
      by_cases q : ML.dist n (hm hs a) u < L
      · rw [decide_eq_true q, if_pos q]; simp
      · rw [decide_eq_false q, if_neg q]; simp
    · rw [sum_plus (by rw [ll]; exact al), sm, List.length_append]
      simp
theorem line_ok (S : Lin m n hs P R) (n9 : n ≤ 900) {h : List Nat} (H : Hist m n h) : LineOk n hs (cntL n hs h) (layF P R h) := (line_rev S n9 _ h rfl H).1
def farI (n : Nat) (hs : List Nat) (sl : List Int) : List Int := ((List.range n).filter fun s => decide (0 ≤ sl.getD s (-1))).map fun s : Nat => ((ML.dist n (hm hs (sl.getD s (-1)).toNat) s : Nat) : Int)
theorem sumL_filter (p : Nat → Bool) (g : Nat → Int) (n : Nat) : ML.sumL (((List.range n).filter p).map g) = ML.sumN n fun s => if p s = true then g s else 0 := by
  induction n with
  | zero => rfl
  | succ n ih =>
    rw [List.range_succ, List.filter_append, List.map_append, ML.sumL_append, ih]
    show _ = ML.sumN n (fun s => if p s = true then g s else 0) + (if p n = true then g n else 0)
    by_cases e : p n = true
    · rw [if_pos e, List.filter_cons_of_pos e]
      show _ + ML.sumL [g n] = _
      rw [ML.sumL_cons]
      show _ + (g n + 0) = _
      omega
    · rw [if_neg e, List.filter_cons_of_neg e]
      rfl
theorem lay_pl (S : Lin m n hs P R) {sl : List Int} (L : Lay m n sl) : ML.Pl n (fun s => 0 ≤ sl.getD s (-1)) (fun s => hm hs (sl.getD s (-1)).toNat) (fun s => ML.dist n (hm hs (sl.getD s (-1)).toNat) s) := by
  have km : ∀ s, s < n → 0 ≤ sl.getD s (-1) → (sl.getD s (-1)).toNat < m := fun s hs' p => by
    have z := L.rng (sl.getD s (-1)) (getD_memL (by rw [L.len]; exact hs'))
    omega
  refine ⟨fun s hs' p => S.hm_lt (km s hs' p), fun s hs' p => ⟨ML.dist_lt S.n0, ?_⟩⟩
  exact ((ML.dist_eq (n := n) (S.hm_lt (km s hs' p)) hs' (ML.dist_lt S.n0)).mp rfl).symm
theorem flow_le {c : List Int} (hc : Cnt c) {u : Nat} (hu : u < c.length) : 0 ≤ (ML.flowsI c).getD u 0 ∧ (ML.flowsI c).getD u 0 ≤ c.length := by
  have f := hc.fl _ (getD_mem (l := ML.flowsI c) (i := u) (by rw [ML.flowsI_length]; exact hu))
  omega
theorem cy_flow {c : List Int} {u : Nat} (hu : u < c.length) : ML.cy (ML.flowsI c) u = (ML.flowsI c).getD u 0 := ML.cy_lt (by rw [ML.flowsI_length]; exact hu)
theorem sq_waits_flows {c : List Int} (hc : Cnt c) : sqSum (waitsI c) = ML.sumN c.length fun s => (ML.flowsI c).getD s 0 * (ML.flowsI c).getD s 0 := by
  rw [sqSum_waits]
  have z := ML.sq_flows hc.flow hc.pos (fun i => hc.nn _ (getD_mem (Nat.mod_lt _ hc.pos))) (ML.cy_per c)
  have y : (ML.sumN c.length fun s => ML.cy (ML.flowsI c) s * ML.cy (ML.flowsI c) s) = ML.sumN c.length fun s => (ML.flowsI c).getD s 0 * (ML.flowsI c).getD s 0 := ML.sumN_congr fun s hs' => by rw [cy_flow hs']
  rw [← y, ← z]
  exact ML.sumN_congr fun s hs' => by rw [ML.cy_lt hs']
theorem wait_flow {c : List Int} (hc : Cnt c) {w : Int} (hw : w ∈ waitsI c) : ∃ u, u < c.length ∧ w ≤ (ML.flowsI c).getD u 0 := by
  unfold waitsI at hw
  obtain ⟨s, hs, hw⟩ := List.mem_flatMap.mp hw
  obtain ⟨k, hk, rfl⟩ := List.mem_map.mp hw
  have ls := List.mem_range.mp hs
  have lk := List.mem_range.mp hk
  refine ⟨s, ls, ?_⟩
  have r := hc.flow.rec_ (s + (c.length - 1))
  have e : s + (c.length - 1) + 1 = s + c.length := by have := hc.pos; omega
  rw [e, hc.flow.per, ML.cy_per, cy_flow ls, ML.cy_lt ls] at r
  unfold ML.step at r
  split at r <;> omega
end
end DL
namespace DL
open PySem PySem.Spec PyProof.Rows L2 LamX PySem.W SL
section
variable {T : List (Addr × Str)} {X : Cx} {a b : Expr} {fa fb : DTE} {pos : Pos}
end
end DL
namespace DL
open PySem PySem.Spec PyProof.Rows L2 LamX PySem.W SL
def onT (x : D) (k : List D → Prop) : Prop := match x with | .tup xs => k xs | _ => False
theorem onT.of {x : D} {k : List D → Prop} (h : onT x k) : ∃ xs, x = .tup xs ∧ k xs := by
  cases x with
  | tup xs => exact ⟨xs, rfl, h⟩
  | _ => exact h.elim
section
variable {T : List (Addr × Str)} {X : Cx}
end
end DL
namespace DL
open PySem PySem.Spec PyProof.Rows L2 LamX PySem.W SL
def F__law_line_setting (g__law_take : DRs) (g__law_pick : DRs) (g__law_line : DRs) : DTS := (sSeq (sSet 3 (dLcG (wRng1 (daCons (dVar 1) daNil)) (gNm 4) dtYes (dCB g__law_pick (daCons (dVar 0) (daCons (dLst (daCons (dCB g__law_take (daCons (dVar 0) (daCons (dVar 2) daNil))) (daCons (dCB g__law_take (daCons (dVar 0) (daCons (dOp dAdd (dC (.int 1)) (dOp dDiv (dVar 2) (dC (.int 3)))) daNil))) daNil))) daNil))) [4] finT)) (sRet (dTup (daCons (dVar 3) (daCons (dCB dTuple (daCons (dLcG (wSeq (dVar 3)) (gNm 5) dtYes (dCB g__law_line (daCons (dVar 2) (daCons (dVar 5) daNil))) [5] finT) daNil)) daNil)))))
def F_law_v9 (g__law_pot : DRs) (g__law_right : DRs) : DTS := (sRet (dCB dAll (daCons (dLcG (wRng1 (daCons (dCB dMax2 (daCons (dC (.int 1)) (daCons (dCB dMin2 (daCons (dC (.int 2)) (daCons (dCB dLen (daCons (dVar 0) daNil)) daNil))) daNil))) daNil)) (gNm 1) dtYes (dCB g__law_right (daCons (dCB g__law_pot (daCons (dVar 0) (daCons (dVar 1) daNil))) daNil)) [1] finT) daNil)))
end DL
namespace DL
open PySem PySem.Spec PyProof.Rows L2 LamX PySem.W SL
end DL
namespace DL
open PySem PySem.Spec PyProof.Rows L2 LamX PySem.W SL
def hL (hs : List Nat) : List D := hs.map fun h : Nat => D.int (h : Nat)
theorem hL_at {hs : List Nat} {k : Nat} (h : k < hs.length) : atI (hL hs) (k : Int) = some (.int ((hm hs k : Nat) : Int)) := by
  refine atI_nat ?_
  unfold hL hm
  rw [List.getElem?_map, List.getElem?_eq_getElem h, List.getD_eq_getElem?_getD, List.getElem?_eq_getElem h]
  rfl
structure HLay (m n : Nat) (hs : List Nat) (sl : List Int) : Prop where
  len : hs.length = m
  lt : ∀ h ∈ hs, h < n
  lay : Lay m n sl
  n0 : 0 < n
  few : n ≤ 100
theorem HLay.hm_lt {m n : Nat} {hs : List Nat} {sl : List Int} (S : HLay m n hs sl) {k : Nat} (hk : k < m) : hm hs k < n := S.lt _ (getD_memL (by rw [S.len]; exact hk))
end DL
namespace DL
open PySem PySem.Spec PyProof.Rows L2 LamX PySem.W SL
theorem far_lt (n : Nat) (hs : List Nat) (sl : List Int) (n0 : 0 < n) : ∀ x ∈ farI n hs sl, 0 ≤ x ∧ x < n := fun x hx => by
  obtain ⟨s, _, rfl⟩ := List.mem_map.mp hx
  have := ML.dist_lt (n := n) (a := hm hs (sl.getD s (-1)).toNat) (i := s) n0
  omega
section
variable {m n : Nat} {hs : List Nat} {P : List (List Int)} {R : List (List (List Int))}
theorem occ_iff {sl : List Int} (L : Lay m n sl) {s : Nat} (hs' : s < n) : 0 ≤ sl.getD s (-1) ↔ ∃ k, At sl s k := by
  rcases L.either hs' with fr | ⟨k, hk⟩
  · have g0 : sl.getD s (-1) = -1 := by rw [List.getD_eq_getElem?_getD, fr]; rfl
    rw [g0]
    exact ⟨fun z => absurd z (by decide), fun ⟨k, hk⟩ => absurd fr hk.ne⟩
  · rw [hk.getD]
    exact ⟨fun _ => ⟨k, hk⟩, fun _ => by omega⟩
theorem taken_occ {sl c : List Int} (L : Lay m n sl) (I : LineOk n hs c sl) : ((List.range n).filter fun s => decide (0 ≤ sl.getD s (-1))).map (fun s : Nat => (s : Int)) = takenI c := by
  unfold takenI
  rw [I.len]
  congr 1
  refine List.filter_congr fun s hs' => ?_
  have ls := List.mem_range.mp hs'
  rw [Bool.eq_iff_iff, decide_eq_true_eq, occ_iff L ls, I.occ s ls]
end
end DL
namespace ML
theorem waits_gen (g : Nat → Int) (x c : Nat) : sumN c (fun k => g (x + k)) = sumN (x + c) g - sumN x g := by
  rw [sumN_split]
  omega
theorem gen_flows (g : Nat → Int) (g0 : g 0 = 0) {n : Nat} {c f : Nat → Int} (F : Flow n c f) (n0 : 0 < n) (c0 : ∀ i, 0 ≤ c i) (cp : ∀ i, c (i + n) = c i) :
    sumN n (fun s => sumN (c s).toNat fun k => g ((f (s + (n - 1))).toNat + k)) = sumN n fun s => g (f s).toNat := by
  have e : ∀ s, s < n → (sumN (c s).toNat fun k => g ((f (s + (n - 1))).toNat + k)) = sumN ((f s).toNat + 1) g - sumN (f (s + (n - 1))).toNat g := by
    intro s hs
    have x0 := F.nn (s + (n - 1))
    have y0 := F.nn s
    have cs := c0 s
    rw [waits_gen]
    have st := F.rec_ (s + (n - 1))
    have e1 : s + (n - 1) + 1 = s + n := by omega
    rw [e1, F.per, cp] at st
    unfold step at st
    by_cases z : f (s + (n - 1)) + c s = 0
    · have a1 : (f (s + (n - 1))).toNat = 0 := by omega
      have a2 : (c s).toNat = 0 := by omega
      have a3 : (f s).toNat = 0 := by
        split at st <;> omega
      rw [a1, a2, a3]
      show sumN 0 g - sumN 0 g = (sumN 0 g + g 0) - sumN 0 g
      rw [g0]
      rfl
    · have a1 : (f (s + (n - 1))).toNat + (c s).toNat = (f s).toNat + 1 := by
        split at st <;> omega
      rw [a1]
  rw [sumN_congr e, sumN_sub]
  have sh := sumN_shifts (n := n) (g := fun i => sumN (f i).toNat g) (fun i => by simp only [F.per]) (n - 1)
  rw [sh, ← sumN_sub]
  refine sumN_congr fun s hs => ?_
  show (sumN (f s).toNat g + g (f s).toNat) - sumN (f s).toNat g = g (f s).toNat
  omega
end ML
namespace ML
def spread (rs : List (Int × Int)) : List Int := rs.flatMap fun p => List.replicate p.1.toNat p.2
theorem spread_cons (p : Int × Int) (rs : List (Int × Int)) : spread (p :: rs) = List.replicate p.1.toNat p.2 ++ spread rs := by unfold spread; simp
structure Rn (rs : List (Int × Int)) : Prop where
  ne : rs ≠ []
  size : ∀ p ∈ rs, 1 ≤ p.1
  nn : ∀ p ∈ rs, 0 ≤ p.2
theorem sumL_rep (m : Nat) (c : Int) : sumL (List.replicate m c) = (m : Int) * c := by
  induction m with
  | zero => simp [sumL]
  | succ m ih => rw [List.replicate_succ, sumL_cons, ih, Int.natCast_add, Int.add_mul]; simp; omega
theorem spread_sum : ∀ rs : List (Int × Int), (∀ p ∈ rs, 0 ≤ p.1) → sumL (spread rs) = (rs.map fun p => p.1 * p.2).sum ∧ ((spread rs).length : Int) = (rs.map fun p => p.1).sum
  | [], _ => ⟨rfl, rfl⟩
  | p :: rs, h => by
    obtain ⟨a, b⟩ := spread_sum rs fun q hq => h q (List.mem_cons_of_mem _ hq)
    have h1 := h p (by simp)
    have e : ((p.1.toNat : Nat) : Int) = p.1 := by omega
    rw [spread_cons, sumL_append, sumL_rep, a, e, List.length_append, List.length_replicate, Int.natCast_add, b, e]
    simp
end ML
namespace ML
section
variable {n : Nat} {o : Nat → Prop} [DecidablePred o] {h d : Nat → Nat}
def homes (n : Nat) (o : Nat → Prop) [DecidablePred o] (h : Nat → Nat) (u : Nat) : Int := sumN n fun s => if o s ∧ h s = u then 1 else 0
theorem dist_step {a u : Nat} (ha : a < n) (hu : u < n) : dist n a ((u + 1) % n) = if (u + 1) % n = a then 0 else dist n a u + 1 := by
  have n0 : 0 < n := by omega
  have lm : (u + 1) % n < n := Nat.mod_lt _ n0
  have e : dist n a ((u + 1) % n) = dist n a (u + 1) := by unfold dist; rw [Nat.mod_add_mod]
  by_cases c : (u + 1) % n = a
  · rw [if_pos c]
    exact (dist_zero ha lm).mpr c
  · rw [if_neg c, e, dist_succ n0]
    rw [if_neg]
    intro z
    have : dist n a (u + 1) = 0 := by rw [dist_succ n0, if_pos z]
    rw [← e] at this
    exact c ((dist_zero ha lm).mp this)
theorem psd_step (P : Pl n o h d) {u : Nat} (hu : u < n) : psd n o h d ((u + 1) % n) = psd n o h d u + homes n o h ((u + 1) % n) - (if o ((u + 1) % n) then 1 else 0) := by
  have n0 : 0 < n := by omega
  have lm : (u + 1) % n < n := Nat.mod_lt _ n0
  generalize hv : (u + 1) % n = v at lm
  have one : sumN n (fun s => if s = v then (if o v then (1 : Int) else 0) else 0) = if o v then 1 else 0 := by
    by_cases c : o v
    · simp only [c, if_true]
      exact sumN_one lm
    · simp only [c, if_false]
      have e : ∀ s : Nat, (if s = v then (0 : Int) else 0) = 0 := fun s => by split <;> rfl
      rw [sumN_congr (h := fun _ => (0 : Int)) fun s _ => e s, sumN_zero]
  rw [← one]
  unfold psd homes
  rw [← sumN_add, ← sumN_sub]
  refine sumN_congr fun s hs => ?_
  unfold ev
  by_cases a : o s
  · have f := P.far s hs a
    have hh := P.home s hs a
    have ds := dist_step hh hu
    rw [hv] at ds
    have sd : dist n (h s) s = d s := (dist_eq hh hs f.1).mpr f.2.symm
    by_cases c : v = h s
    · rw [if_pos c] at ds
      have du : dist n (h s) u = n - 1 := by
        have z := dist_succ (n := n) (a := h s) (i := u) n0
        have e : dist n (h s) (u + 1) = dist n (h s) v := by rw [← hv]; unfold dist; rw [Nat.mod_add_mod]
        rw [e, ds] at z
        have l := dist_lt (n := n) (a := h s) (i := u) n0
        split at z <;> omega
      rw [ds, du]
      have c' : h s = v := c.symm
      by_cases d0 : d s = 0
      · have sv : s = v := by
          rw [d0] at sd
          have := (dist_zero hh hs).mp sd
          omega
        have ov : o v := by rw [← sv]; exact a
        rw [if_neg (fun z => by have := z.2; omega), if_neg (fun z => by have := z.2; omega), if_pos ⟨a, c'⟩, if_pos sv, if_pos ov]
        rfl
      · have sv : ¬ s = v := fun e => d0 (by
          rw [← sd]
          exact (dist_zero hh hs).mpr (by omega))
        rw [if_pos ⟨a, by omega⟩, if_neg (fun z => by have := z.2; omega), if_pos ⟨a, c'⟩, if_neg sv]
        rfl
    · rw [if_neg c] at ds
      have c' : ¬ h s = v := fun e => c e.symm
      rw [ds]
      have iff1 : s = v ↔ dist n (h s) u + 1 = d s := by
        constructor
        · intro e
          rw [← ds, ← e, sd]
        · intro e
          have x := (dist_eq hh lm f.1).mp (by rw [ds]; exact e)
          rw [f.2] at x
          exact x.symm
      by_cases sv : s = v
      · have e := iff1.mp sv
        have ov : o v := by rw [← sv]; exact a
        rw [if_neg (fun z => by have := z.2; omega), if_pos ⟨a, by omega⟩, if_neg (fun z => c' z.2), if_pos sv, if_pos ov]
        rfl
      · have e : dist n (h s) u + 1 ≠ d s := fun z => sv (iff1.mpr z)
        by_cases l : dist n (h s) u + 1 < d s
        · rw [if_pos ⟨a, by omega⟩, if_pos ⟨a, by omega⟩, if_neg (fun z => c' z.2), if_neg sv]
          rfl
        · rw [if_neg (fun z => by have := z.2; omega), if_neg (fun z => by have := z.2; omega), if_neg (fun z => c' z.2), if_neg sv]
          rfl
  · have sv : s = v → ¬ o v := fun e => by rw [← e]; exact a
    simp only [a, false_and, if_false]
    by_cases c : s = v
    · rw [if_pos c, if_neg (sv c)]
      rfl
    · rw [if_neg c]
      rfl
theorem Flow.stepT {c f : Nat → Int} (F : Flow n c f) (c0 : ∀ i, 0 ≤ c i) (i : Nat) : f (i + 1) = f i + c (i + 1) - if 0 < f i + c (i + 1) then 1 else 0 := by
  have r := F.rec_ i
  have a := F.nn i
  have b := c0 (i + 1)
  unfold step at r
  split at r <;> split <;> omega
theorem psd_ge {c f : Nat → Int} (P : Pl n o h d) (F : Flow n c f) (n0 : 0 < n) (c0 : ∀ i, 0 ≤ c i) (cp : ∀ i, c (i + n) = c i) (hc : ∀ u, u < n → c u = homes n o h u) (ho : ∀ i, (o ((i + 1) % n) ↔ 0 < f i + c (i + 1))) (u : Nat) (hu : u < n) : f u ≤ psd n o h d u := by
  have pm : ∀ i, c (i % n) = c i := fun i => per_mod cp i
  have fm : ∀ i, f (i % n) = f i := fun i => per_mod F.per i
  have st : ∀ i, psd n o h d ((i + 1) % n) - f (i + 1) = psd n o h d (i % n) - f i := fun i => by
    have s := psd_step P (u := i % n) (Nat.mod_lt _ n0)
    have e : (i % n + 1) % n = (i + 1) % n := by rw [Nat.mod_add_mod]
    rw [e] at s
    have g := F.stepT c0 i
    rw [s, ← hc _ (Nat.mod_lt _ n0), pm]
    have x := ho i
    by_cases w : 0 < f i + c (i + 1)
    · rw [if_pos w] at g
      rw [if_pos (x.mpr w)]
      omega
    · rw [if_neg w] at g
      rw [if_neg fun y => w (x.mp y)]
      omega
  have al : ∀ i, psd n o h d (i % n) - f i = psd n o h d (0 % n) - f 0 := fun i => by
    induction i with
    | zero => rfl
    | succ i ih => rw [st i, ih]
  obtain ⟨z, hz⟩ := F.zero
  have a1 := al z
  have a2 := al u
  rw [Nat.mod_eq_of_lt hu] at a2
  have nn := psd_nn (n := n) (o := o) (h := h) (d := d) (z % n)
  omega
def InRow (n : Nat) (o : Nat → Prop) (d : Nat → Nat) : Prop := ∀ s, s < n → o s → 0 < d s → o ((s + (n - 1)) % n) ∧ d s ≤ d ((s + (n - 1)) % n) + 1
theorem mod_cancel {n x u i : Nat} (h : (x + i) % n = (u + i) % n) : x % n = u % n := by
  have e1 := Nat.div_add_mod (x + i) n
  have e2 := Nat.div_add_mod (u + i) n
  rw [h] at e1
  generalize (x + i) / n = a at e1
  generalize (u + i) / n = b at e2
  rcases Nat.le_total b a with w | w
  · obtain ⟨k, rfl⟩ := Nat.exists_eq_add_of_le w
    rw [Nat.mul_add] at e1
    have : x = u + n * k := by omega
    rw [this, Nat.add_mul_mod_self_left]
  · obtain ⟨k, rfl⟩ := Nat.exists_eq_add_of_le w
    rw [Nat.mul_add] at e2
    have : u = x + n * k := by omega
    rw [this, Nat.add_mul_mod_self_left]
theorem pass_at (P : Pl n o h d) {u i : Nat} (hu : u < n) (os : o ((u + i) % n)) (le : i ≤ d ((u + i) % n)) : dist n (h ((u + i) % n)) u + i = d ((u + i) % n) := by
  have n0 : 0 < n := by omega
  have f := P.far _ (Nat.mod_lt _ n0) os
  have hh := P.home _ (Nat.mod_lt _ n0) os
  generalize hs : (u + i) % n = s at *
  have e : u = (h s + (d s - i)) % n := by
    have z : (h s + (d s - i) + i) % n = (u + i) % n := by rw [show h s + (d s - i) + i = h s + d s by omega, f.2, hs]
    have w := mod_cancel z
    rw [Nat.mod_eq_of_lt hu] at w
    exact w.symm
  have := (dist_eq (n := n) hh hu (show d s - i < n by omega)).mpr e
  omega
theorem sumN_chg {x : Nat} {g g' : Nat → Int} : ∀ {n : Nat}, x < n → (∀ s, s < n → s ≠ x → g' s = g s) → sumN n g' = sumN n g - g x + g' x
  | 0, h, _ => absurd h (Nat.not_lt_zero _)
  | n + 1, h, e => by
    show sumN n g' + g' n = sumN n g + g n - g x + g' x
    by_cases q : x = n
    · subst q
      rw [sumN_congr (h := g) fun i hi => e i (by omega) (by omega)]
      omega
    · rw [sumN_chg (n := n) (by omega) fun s hs => e s (by omega), e n (by omega) (fun z => q z.symm)]
      omega
theorem row_down (P : Pl n o h d) (R : InRow n o d) {u : Nat} (hu : u < n) : ∀ (k j : Nat), 1 ≤ j → j + k < n → o ((u + (j + k)) % n) → j + k ≤ d ((u + (j + k)) % n) → o ((u + j) % n) ∧ j ≤ d ((u + j) % n)
  | 0, j, _, _, os, le => ⟨os, le⟩
  | k + 1, j, j1, lt, os, le => by
    have n0 : 0 < n := by omega
    obtain ⟨a, b⟩ := R _ (Nat.mod_lt _ n0) os (by omega)
    have e : ((u + (j + (k + 1))) % n + (n - 1)) % n = (u + (j + k)) % n := by
      rw [Nat.mod_add_mod, show u + (j + (k + 1)) + (n - 1) = u + (j + k) + n by omega, Nat.add_mod_right]
    rw [e] at a b
    exact row_down P R hu k j j1 (by omega) a (by omega)
theorem ev_row (P : Pl n o h d) (R : InRow n o d) {u : Nat} (hu : u < n) (j : Nat) (p : 0 < sumN n (ev n o h d u j)) : sumN n (ev n o h d u (j + 1)) = sumN n (ev n o h d u j) - 1 := by
  have n0 : 0 < n := by omega
  obtain ⟨s, hs, w⟩ := sumN_pos p
  unfold ev at w
  split at w
  · rename_i q
    obtain ⟨os, l⟩ := q
    have f := P.far s hs os
    have hh := P.home s hs os
    have es : (u + (d s - dist n (h s) u)) % n = s := by
      have k : (h s + dist n (h s) u) % n = u := ((dist_eq hh hu (dist_lt n0)).mp rfl).symm
      have e : h s + dist n (h s) u + (d s - dist n (h s) u) = h s + d s := by omega
      have e' : (u + (d s - dist n (h s) u)) % n = (h s + d s) % n := by rw [← e, Nat.add_mod (h s + dist n (h s) u), k, Nat.add_mod_mod]
      exact e'.trans f.2
    have ei : d s - dist n (h s) u = (j + 1) + (d s - dist n (h s) u - (j + 1)) := by omega
    obtain ⟨ox, lx⟩ := row_down P R hu (d s - dist n (h s) u - (j + 1)) (j + 1) (by omega) (by omega) (by rw [← ei, es]; exact os) (by rw [← ei, es]; omega)
    have pa := pass_at P hu ox lx
    generalize hx : (u + (j + 1)) % n = x at *
    have lx' : x < n := by rw [← hx]; exact Nat.mod_lt _ n0
    have chg := sumN_chg (n := n) (x := x) (g := ev n o h d u j) (g' := ev n o h d u (j + 1)) lx' fun s2 hs2 ne => by
      unfold ev
      by_cases a : o s2
      · have f2 := P.far s2 hs2 a
        have hh2 := P.home s2 hs2 a
        have nd : dist n (h s2) u + (j + 1) ≠ d s2 := fun e => ne (by
          rw [← hx, ← f2.2, ← e]
          have k : (h s2 + dist n (h s2) u) % n = u := ((dist_eq hh2 hu (dist_lt n0)).mp rfl).symm
          rw [← Nat.add_assoc, Nat.add_mod, k]
          conv => rhs; rw [Nat.add_mod, Nat.mod_eq_of_lt hu])
        by_cases l2 : dist n (h s2) u + j < d s2
        · rw [if_pos ⟨a, by omega⟩, if_pos ⟨a, l2⟩]
        · rw [if_neg (fun z => by have := z.2; omega), if_neg (fun z => l2 z.2)]
      · rw [if_neg (fun z => a z.1), if_neg (fun z => a z.1)]
    have v1 : ev n o h d u j x = 1 := by unfold ev; rw [if_pos ⟨ox, by omega⟩]
    have v2 : ev n o h d u (j + 1) x = 0 := by unfold ev; rw [if_neg (fun z => by have := z.2; omega)]
    rw [chg, v1, v2]
    omega
  · omega
theorem ev_eq (P : Pl n o h d) (R : InRow n o d) {u : Nat} (hu : u < n) : ∀ j : Nat, sumN n (ev n o h d u j) = if psd n o h d u - (j : Int) > 0 then psd n o h d u - (j : Int) else 0
  | 0 => by
    have := psd_nn (n := n) (o := o) (h := h) (d := d) u
    show psd n o h d u = _
    split <;> omega
  | j + 1 => by
    have ih := ev_eq P R hu j
    have nn := ev_nn (n := n) (o := o) (h := h) (d := d) u (j + 1)
    by_cases p : 0 < sumN n (ev n o h d u j)
    · rw [ev_row P R hu j p, ih]
      rw [ih] at p
      split at p <;> split <;> omega
    · have mono : sumN n (ev n o h d u (j + 1)) ≤ sumN n (ev n o h d u j) := sumN_le fun s _ => by
        unfold ev
        by_cases a : o s ∧ dist n (h s) u + (j + 1) < d s
        · rw [if_pos a, if_pos ⟨a.1, by have := a.2; omega⟩]
          exact Int.le_refl 1
        · rw [if_neg a]
          split <;> omega
      rw [ih] at p mono
      split at p <;> split <;> omega
theorem cnt_lt (a : Nat) : ∀ (n x : Nat), x ≤ n → sumN n (fun j => if a + j < x then (1 : Int) else 0) = ((x - a : Nat) : Int) := by
  intro n
  induction n with
  | zero => intro x hx; have : x = 0 := by omega
            subst this; simp [sumN]
  | succ n ih =>
    intro x hx
    rw [sumN_first]
    have s1 : sumN n (fun i => if a + (i + 1) < x then (1 : Int) else 0) = sumN n (fun j => if a + j < x - 1 then (1 : Int) else 0) := sumN_congr fun i _ => by
      by_cases q : a + (i + 1) < x
      · rw [if_pos q, if_pos (by omega)]
      · rw [if_neg q, if_neg (by omega)]
    rw [s1, ih (x - 1) (by omega)]
    by_cases q : a + 0 < x
    · rw [if_pos q]; omega
    · rw [if_neg q]; omega
theorem row_sq (P : Pl n o h d) (R : InRow n o d) (n0 : 0 < n) (le : ∀ u, u < n → psd n o h d u ≤ n) : sumN n (fun u => psd n o h d u * psd n o h d u) = sumN n fun s => if o s then (d s : Int) * d s else 0 := by
  have A : ∀ u, u < n → psd n o h d u * psd n o h d u + psd n o h d u = 2 * sumN n (fun j => sumN n (ev n o h d u j)) := fun u hu => by
    have p0 := psd_nn (n := n) (o := o) (h := h) (d := d) u
    obtain ⟨x, hx⟩ : ∃ x : Nat, psd n o h d u = (x : Int) := ⟨(psd n o h d u).toNat, by omega⟩
    have xl : x ≤ n := by have := le u hu; omega
    have t := tri_sum x n xl
    have b : sumN n (fun j => sumN n (ev n o h d u j)) = sumN n (fun a => sumN n fun j => if a + j < x then (1 : Int) else 0) := sumN_congr fun a ha => by
      rw [ev_eq P R hu a, cnt_lt a n x xl, hx]
      split <;> omega
    rw [b, t, hx, Int.mul_add]
    omega
  have B : 2 * sumN n (fun u => sumN n (fun j => sumN n (ev n o h d u j))) = sumN n (fun s => if o s then (d s : Int) * (d s + 1) else 0) := by
    have e1 : sumN n (fun u => sumN n (fun j => sumN n (ev n o h d u j))) = sumN n (fun s => sumN n (fun u => sumN n (fun j => ev n o h d u j s))) := by
      rw [sumN_congr (h := fun u => sumN n (fun s => sumN n (fun j => ev n o h d u j s))) fun u _ => sumN_swap n n _]
      exact sumN_swap n n _
    rw [e1, ← sumN_mul]
    refine sumN_congr fun s hs => ?_
    unfold ev
    by_cases a : o s
    · rw [if_pos a]
      have f := P.far s hs a
      have hh := P.home s hs a
      have e : sumN n (fun u => sumN n fun j => if o s ∧ dist n (h s) u + j < d s then (1 : Int) else 0) = sumN n (fun u => (fun x => sumN n fun j => if x + j < d s then (1 : Int) else 0) (dist n (h s) u)) := sumN_congr fun u _ => sumN_congr fun j _ => by
        simp only [a, true_and]
      rw [e, sumN_dist (by omega) n0 fun x => sumN n fun j => if x + j < d s then (1 : Int) else 0]
      exact tri_sum (d s) n (by omega)
    · rw [if_neg a, sumN_congr (h := fun _ => (0 : Int)) (fun u _ => by rw [sumN_congr (h := fun _ => (0 : Int)) (fun j _ => if_neg fun z => a z.1), sumN_zero]), sumN_zero]
      rfl
  have C := psd_sum P n0
  have D : sumN n (fun u => psd n o h d u * psd n o h d u + psd n o h d u) = sumN n (fun u => 2 * sumN n (fun j => sumN n (ev n o h d u j))) := sumN_congr A
  rw [sumN_mul, B, sumN_add] at D
  have E : sumN n (fun s => if o s then (d s : Int) * (d s + 1) else 0) = sumN n (fun s => if o s then (d s : Int) * d s else 0) + sumN n fun s => if o s then (d s : Int) else 0 := by
    rw [← sumN_add]
    refine sumN_congr fun s _ => ?_
    by_cases a : o s
    · simp only [a, if_true]; rw [Int.mul_add]; omega
    · simp only [a, if_false]; rfl
  rw [E] at D
  have F : sumN n (psd n o h d) = sumN n (fun u => psd n o h d u) := rfl
  omega
theorem row_max (P : Pl n o h d) (R : InRow n o d) {s : Nat} (hs : s < n) (os : o s) (d0 : 0 < d s) : (d s : Int) ≤ psd n o h d (h s) := by
  have n0 : 0 < n := by omega
  have hh := P.home s hs os
  have e := ev_eq P R hh (d s - 1)
  have one : (1 : Int) ≤ sumN n (ev n o h d (h s) (d s - 1)) := by
    have z := sumN_le (n := n) (g := fun i => if i = s then (1 : Int) else 0) (h := ev n o h d (h s) (d s - 1)) fun i _ => by
      unfold ev
      by_cases c : i = s
      · subst c
        have zz : dist n (h i) (h i) = 0 := (dist_zero hh hh).mpr rfl
        rw [if_pos rfl, if_pos ⟨os, by omega⟩]
        exact Int.le_refl 1
      · rw [if_neg c]
        split <;> omega
    rw [sumN_one hs] at z
    exact z
  rw [e] at one
  split at one <;> omega
end
end ML
namespace DL
open PySem PySem.Spec PyProof.Rows L2 LamX PySem.W SL
def Trn (m n : Nat) (R : List (List (List Int))) : Prop := ∀ s a b c, s < n → a < m → b < m → c < m → bt R s a b = true → bt R s b c = true → bt R s a c = true
section
variable {m n : Nat} {P : List (List Int)} {R : List (List (List Int))}
theorem Setg.trn (S : Setg m n P R) (all : ∀ t ∈ R, noRing t = true) : Trn m n R := fun s a b c hs ha hb hc h1 h2 => by
  have tb := S.tb hs
  have no := all _ (getD_memL (d := []) (by rw [S.rl]; exact hs) : R.getD s [] ∈ R)
  unfold bt at h1 h2 ⊢
  have h1' := of_decide_eq_true h1
  have h2' := of_decide_eq_true h2
  exact decide_eq_true (tb.trans no ha hb hc h1' h2')
def Stb (P : List (List Int)) (R : List (List (List Int))) (sl : List Int) : Prop := ∀ s k, At sl s k → ∀ j, j < rk P k s → ∀ k', At sl (pr P k j) k' → bt R (pr P k j) k' k = true
def AskB (P : List (List Int)) (R : List (List (List Int))) (sl : List Int) (a i : Nat) : Prop := ∀ j, j < i → ∀ k', At sl (pr P a j) k' → bt R (pr P a j) k' a = true
theorem pr_ne (S : Setg m n P R) {a i j : Nat} (ha : a < m) (hi : i < n) (hj : j < n) (ne : j ≠ i) : pr P a j ≠ pr P a i := fun e => by
  have := S.rk_pr ha hj
  rw [e, S.rk_pr ha hi] at this
  exact ne this.symm
theorem insG_stb (S : Setg m n P R) (T : Trn m n R) : ∀ (f : Nat) (sl : List Int) (a i : Nat) (L : List Int) (p : List (Nat × Nat)), Go m n P sl a i → Stb P R sl → AskB P R sl a i → insG P R f sl a i = some (L, p) → Stb P R L
  | 0, sl, a, i, L, p, G, _, _, h => by cases h
  | f + 1, sl, a, i, L, p, G, st, ak, h => by
    have ls := (S.pr_at G.ha G.hi).2
    have ls' : pr P a i < sl.length := by rw [G.g.lay.len]; exact ls
    rcases G.g.lay.either ls with e | ⟨k, tk⟩
    · rw [insG_free e] at h
      cases h
      intro s x hx j lj x' hx'
      rcases (at_set ls').mp hx with ⟨rfl, rfl⟩ | ⟨ne, hx⟩
      · rw [S.rk_pr G.ha G.hi] at lj
        rcases (at_set ls').mp hx' with ⟨z, _⟩ | ⟨_, hx'⟩
        · exact absurd z (pr_ne S G.ha G.hi (by have := G.hi; omega) (by omega))
        · exact ak j lj x' hx'
      · rcases (at_set ls').mp hx' with ⟨z, _⟩ | ⟨_, hx'⟩
        · obtain ⟨y, hy⟩ := G.g.ah s x hx j lj
          rw [z] at hy
          exact absurd e hy.ne
        · exact st s x hx j lj x' hx'
    · have hk := (G.g.lay.key tk).1
      have ak' : a ≠ k := fun z => by subst z; exact G.fr _ tk
      rw [insG_taken tk] at h
      by_cases b : bt R (pr P a i) a k = true
      · rw [if_pos b] at h
        obtain ⟨⟨L2, p2⟩, h2, h3⟩ := Option.map_eq_some_iff.mp h
        cases h3
        have pk := S.pr_rk hk ls
        have lr := (S.rk_at hk ls).2.1
        refine insG_stb S T f _ _ _ _ p2 (G.swap S tk) ?_ ?_ h2
        · intro s x hx j lj x' hx'
          rcases (at_set ls').mp hx with ⟨rfl, rfl⟩ | ⟨ne, hy⟩
          · rw [S.rk_pr G.ha G.hi] at lj
            rcases (at_set ls').mp hx' with ⟨z, _⟩ | ⟨_, hx'⟩
            · exact absurd z (pr_ne S G.ha G.hi (by have := G.hi; omega) (by omega))
            · exact ak j lj x' hx'
          · rcases (at_set ls').mp hx' with ⟨z, ex⟩ | ⟨_, hx'⟩
            · rw [z, ex]
              have q := st s x hy j lj k (by rw [z]; exact tk)
              rw [z] at q
              exact T _ _ _ _ ls G.ha hk (G.g.lay.key hy).1 b q
            · exact st s x hy j lj x' hx'
        · intro j lj x' hx'
          rcases Nat.lt_or_ge j (rk P k (pr P a i)) with w | w
          · rcases (at_set ls').mp hx' with ⟨z, _⟩ | ⟨_, hx'⟩
            · have := S.rk_pr hk (i := j) (by omega)
              rw [z] at this
              omega
            · exact st _ k tk j w x' hx'
          · rw [show j = rk P k (pr P a i) by omega, pk] at hx' ⊢
            rcases (at_set ls').mp hx' with ⟨_, rfl⟩ | ⟨z, _⟩
            · exact b
            · exact absurd rfl z
      · rw [if_neg b] at h
        refine insG_stb S T f _ _ _ L p (G.on S tk) st ?_ h
        intro j lj x' hx'
        rcases Nat.lt_or_ge j i with w | w
        · exact ak j w x' hx'
        · rw [show j = i by omega] at hx' ⊢
          rw [hx'.one tk, S.bt_not ls hk G.ha ak'.symm]
          simpa using b
structure Fix (m n : Nat) (P : List (List Int)) (R : List (List (List Int))) (K : Nat → Prop) (M : List Int) : Prop where
  g : Good m n P M
  ks : ∀ k, K k → ∃ s, At M s k
  st : Stb P R M
def Below (P : List (List Int)) (K : Nat → Prop) (M sl : List Int) : Prop := ∀ s k, At sl s k → K k ∧ ∀ u, At M u k → rk P k s ≤ rk P k u
theorem lose (S : Setg m n P R) {K : Nat → Prop} {M : List Int} (F : Fix m n P R K M) {t w x : Nat} (ht : t < n) (hw : w < m) (hx : x < m) (ne : w ≠ x) (kw : K w) (b : bt R t w x = true) (lw : ∀ u, At M u w → rk P w t ≤ rk P w u) : ¬ At M t x := fun hM => by
  obtain ⟨v, hv⟩ := F.ks w kw
  have hvn := (F.g.lay.key hv).2
  have vt : v ≠ t := fun z => by rw [z] at hv; exact ne (hv.one hM)
  have l1 := lw v hv
  have l2 : rk P w t ≠ rk P w v := fun z => vt (S.rk_inj hw ht hvn z).symm
  have q := F.st v w hv (rk P w t) (by omega) x (by rw [S.pr_rk hw ht]; exact hM)
  rw [S.pr_rk hw ht, S.bt_not ht hx hw ne.symm, b] at q
  cases q
theorem insG_below (S : Setg m n P R) {K : Nat → Prop} {M : List Int} (F : Fix m n P R K M) : ∀ (f : Nat) (sl : List Int) (a i : Nat) (L : List Int) (p : List (Nat × Nat)), Go m n P sl a i → Below P K M sl → K a → (∀ u, At M u a → i ≤ rk P a u) → insG P R f sl a i = some (L, p) → Below P K M L
  | 0, sl, a, i, L, p, G, _, _, _, h => by cases h
  | f + 1, sl, a, i, L, p, G, bl, ka, la, h => by
    have ls := (S.pr_at G.ha G.hi).2
    have ls' : pr P a i < sl.length := by rw [G.g.lay.len]; exact ls
    have ra := S.rk_pr G.ha G.hi
    have put : Below P K M (sl.set (pr P a i) (a : Int)) := fun s x hx => by
      rcases (at_set ls').mp hx with ⟨rfl, rfl⟩ | ⟨_, hx⟩
      · rw [ra]; exact ⟨ka, la⟩
      · exact bl s x hx
    rcases G.g.lay.either ls with e | ⟨k, tk⟩
    · rw [insG_free e] at h
      cases h
      exact put
    · have hk := (G.g.lay.key tk).1
      have ak' : a ≠ k := fun z => by subst z; exact G.fr _ tk
      obtain ⟨kk, lk⟩ := bl _ _ tk
      rw [insG_taken tk] at h
      by_cases b : bt R (pr P a i) a k = true
      · rw [if_pos b] at h
        obtain ⟨⟨L2, p2⟩, h2, h3⟩ := Option.map_eq_some_iff.mp h
        cases h3
        refine insG_below S F f _ _ _ _ p2 (G.swap S tk) put kk (fun u hu => ?_) h2
        have l1 := lk u hu
        have no := lose S F ls G.ha hk ak' ka b (fun u hu => by rw [ra]; exact la u hu)
        have l2 : rk P k (pr P a i) ≠ rk P k u := fun z => no (by rw [S.rk_inj hk ls (F.g.lay.key hu).2 z]; exact hu)
        omega
      · rw [if_neg b] at h
        refine insG_below S F f _ _ _ L p (G.on S tk) bl ka (fun u hu => ?_) h
        have l1 := la u hu
        have b2 : bt R (pr P a i) k a = true := by
          rw [S.bt_not ls hk G.ha ak'.symm]
          simpa using b
        have no := lose S F ls hk G.ha ak'.symm kk b2 lk
        have l2 : i ≠ rk P a u := fun z => no (by
          have : rk P a (pr P a i) = rk P a u := by rw [ra]; exact z
          rw [S.rk_inj G.ha ls (F.g.lay.key hu).2 this]
          exact hu)
        omega
theorem emp_stb : Stb P R (emp n) := fun s k h => absurd h emp_at
theorem layG_stb (S : Setg m n P R) (T : Trn m n R) : ∀ (h q : List Nat) (sl : List Int), Good m n P sl → (∀ k, (∃ s, At sl s k) ↔ k ∈ q) → Hist m n (q ++ h) → Stb P R sl → Stb P R (layG P R sl h)
  | [], q, sl, g, ks, H, st => st
  | a :: h, q, sl, g, ks, H, st => by
    have nd := H.nd
    rw [List.nodup_append] at nd
    have fw := H.few
    rw [List.length_append, List.length_cons] at fw
    have G := step_go S g ks (H.lt a (by simp)) (fun z => nd.2.2 a z a (by simp) rfl) (by omega)
    obtain ⟨g2, k2⟩ := step_good S G ks
    exact layG_stb S T h (q ++ [a]) _ g2 k2 (by rw [List.append_assoc]; exact H) (insG_stb S T _ _ _ _ _ _ G st (fun j lj => absurd lj (Nat.not_lt_zero _)) (ins_eq S G))
theorem layF_stb (S : Setg m n P R) (T : Trn m n R) {h : List Nat} (H : Hist m n h) : Stb P R (layF P R h) :=
  layG_stb S T h [] (emp R.length) (by rw [S.rl]; exact emp_good m n P) (fun k => ⟨fun ⟨s, hs⟩ => absurd hs emp_at, fun h => by cases h⟩) H (by rw [S.rl]; exact emp_stb)
theorem layG_below (S : Setg m n P R) {K : Nat → Prop} {M : List Int} (F : Fix m n P R K M) : ∀ (h q : List Nat) (sl : List Int), Good m n P sl → (∀ k, (∃ s, At sl s k) ↔ k ∈ q) → Hist m n (q ++ h) → (∀ k ∈ h, K k) → Below P K M sl → Below P K M (layG P R sl h)
  | [], q, sl, g, ks, H, _, st => st
  | a :: h, q, sl, g, ks, H, hK, bl => by
    have nd := H.nd
    rw [List.nodup_append] at nd
    have fw := H.few
    rw [List.length_append, List.length_cons] at fw
    have G := step_go S g ks (H.lt a (by simp)) (fun z => nd.2.2 a z a (by simp) rfl) (by omega)
    obtain ⟨g2, k2⟩ := step_good S G ks
    exact layG_below S F h (q ++ [a]) _ g2 k2 (by rw [List.append_assoc]; exact H) (fun k hk => hK k (List.mem_cons_of_mem _ hk)) (insG_below S F _ _ _ _ _ _ G bl (hK a List.mem_cons_self) (fun _ _ => Nat.zero_le _) (ins_eq S G))
theorem layF_fix (S : Setg m n P R) (T : Trn m n R) {h : List Nat} (H : Hist m n h) : Fix m n P R (· ∈ h) (layF P R h) := ⟨(layF_good S H).1, fun k hk => ((layF_good S H).2 k).mpr hk, layF_stb S T H⟩
theorem layF_below (S : Setg m n P R) {K : Nat → Prop} {M : List Int} (F : Fix m n P R K M) {h : List Nat} (H : Hist m n h) (hK : ∀ k ∈ h, K k) : Below P K M (layF P R h) :=
  layG_below S F h [] (emp R.length) (by rw [S.rl]; exact emp_good m n P) (fun k => ⟨fun ⟨s, hs⟩ => absurd hs emp_at, fun h => by cases h⟩) H hK (fun s k hk => by rw [S.rl] at hk; exact absurd hk emp_at)
theorem layF_any (S : Setg m n P R) (T : Trn m n R) {h h2 : List Nat} (H : Hist m n h) (H2 : Hist m n h2) (same : ∀ k, k ∈ h ↔ k ∈ h2) : layF P R h = layF P R h2 := by
  have b1 := layF_below S (layF_fix S T H2) H (fun k hk => (same k).mp hk)
  have b2 := layF_below S (layF_fix S T H) H2 (fun k hk => (same k).mpr hk)
  obtain ⟨g1, k1⟩ := layF_good S H
  obtain ⟨g2, k2⟩ := layF_good S H2
  have half : ∀ s k, At (layF P R h) s k → At (layF P R h2) s k := fun s k hs => by
    obtain ⟨u, hu⟩ := (k2 k).mpr ((same k).mp ((k1 k).mp ⟨s, hs⟩))
    have l1 := (b1 s k hs).2 u hu
    have l2 := (b2 u k hu).2 s hs
    have hk := (g1.lay.key hs).1
    have e := S.rk_inj hk (g1.lay.key hs).2 (g2.lay.key hu).2 (by omega)
    rw [e]
    exact hu
  refine List.ext_getElem? fun s => ?_
  by_cases ls : s < n
  · rcases g1.lay.either ls with e | ⟨k, hk⟩
    · rcases g2.lay.either ls with e2 | ⟨k, hk⟩
      · rw [e, e2]
      · obtain ⟨u, hu⟩ := (k1 k).mpr ((same k).mpr ((k2 k).mp ⟨s, hk⟩))
        have := g2.lay.inj _ _ _ (half u k hu) hk
        rw [this] at hu
        exact absurd e hu.ne
    · have := half s k hk
      unfold At at hk this
      rw [hk, this]
  · rw [List.getElem?_eq_none (by rw [g1.lay.len]; omega), List.getElem?_eq_none (by rw [g2.lay.len]; omega)]
end
end DL
namespace DL
open PySem PySem.Spec PyProof.Rows L2 LamX PySem.W SL
theorem waits_sum (g : Nat → Int) (g0 : g 0 = 0) {c : List Int} (hc : Cnt c) : ML.sumL ((waitsI c).map fun w => g w.toNat) = ML.sumN c.length fun s => g ((ML.flowsI c).getD s 0).toNat := by
  have z := ML.gen_flows g g0 hc.flow hc.pos (fun i => hc.nn _ (getD_mem (Nat.mod_lt _ hc.pos))) (ML.cy_per c)
  have y : (ML.sumN c.length fun s => g (ML.cy (ML.flowsI c) s).toNat) = ML.sumN c.length fun s => g ((ML.flowsI c).getD s 0).toNat := ML.sumN_congr fun s hs' => by rw [cy_flow hs']
  rw [← y, ← z]
  unfold waitsI
  rw [List.map_flatMap, sumL_flat, sumL_range]
  refine ML.sumN_congr fun s hs => ?_
  rw [List.map_map, sumL_range, ML.cy_lt hs]
  refine ML.sumN_congr fun k _ => ?_
  have x0 := hc.flow.nn (s + (c.length - 1))
  show g ((ML.cy (ML.flowsI c) (s + (c.length - 1)) + (k : Int)).toNat) = _
  congr 1
  omega
theorem sumL_pos : ∀ {l : List Int} {x : Int}, (∀ y ∈ l, 0 ≤ y) → x ∈ l → x ≤ ML.sumL l := fun h hx => sum_mem_le h _ hx
theorem sumL_zero : ∀ {l : List Int}, (∀ y ∈ l, y = 0) → ML.sumL l = 0
  | [], _ => rfl
  | x :: r, h => by
    rw [ML.sumL_cons, h x (by simp), sumL_zero fun y hy => h y (List.mem_cons_of_mem _ hy)]
    rfl
theorem max_alike {l l2 : List Int} (nn : ∀ x ∈ l, 0 ≤ x) (same : ∀ g : Nat → Int, g 0 = 0 → ML.sumL (l2.map fun w => g w.toNat) = ML.sumL (l.map fun w => g w.toNat)) {x : Int} (hx : x ∈ l) (x0 : 0 < x) : ∃ y ∈ l2, x ≤ y := by
  apply Classical.byContradiction
  intro no
  have lt : ∀ y ∈ l2, y < x := fun y hy => Int.not_le.mp fun le => no ⟨y, hy, le⟩
  have s := same (fun v => if x ≤ (v : Int) then 1 else 0) (if_neg (by omega))
  have a : ML.sumL (l2.map fun w => if x ≤ ((w.toNat : Nat) : Int) then (1 : Int) else 0) = 0 := sumL_zero fun y hy => by
    obtain ⟨w, hw, rfl⟩ := List.mem_map.mp hy
    exact if_neg (by have := lt w hw; omega)
  have b : (1 : Int) ≤ ML.sumL (l.map fun w => if x ≤ ((w.toNat : Nat) : Int) then (1 : Int) else 0) := sumL_pos (fun y hy => by
    obtain ⟨w, hw, rfl⟩ := List.mem_map.mp hy
    split <;> omega) (List.mem_map.mpr ⟨x, hx, if_pos (by omega)⟩)
  rw [a] at s
  omega
structure Put (n : Nat) (cc far : List Int) : Prop where
  ex : ∃ (o : Nat → Bool) (h d : Nat → Nat), ML.Pl n (fun s => o s = true) h d ∧ (∀ s, s < n → (o s = true ↔ isTk cc s = true)) ∧ (∀ g : Int → Int, ML.sumL (far.map g) = ML.sumN n (fun s => if o s = true then g (d s) else 0)) ∧ (∀ s, s < n → o s = true → ((d s : Nat) : Int) ∈ far) ∧ ∀ u, u < n → ML.psd n (fun s => o s = true) h d u = (ML.flowsI cc).getD u 0
theorem rep_getD {n i : Nat} : (List.replicate n (0 : Int)).getD i 0 = 0 := by
  rw [List.getD_eq_getElem?_getD, List.getElem?_replicate]
  split <;> rfl
theorem Put.start (n : Nat) : Put n (List.replicate n 0) [] := by
  refine ⟨fun _ => false, fun _ => 0, fun _ => 0, ⟨fun s _ h => (by cases h), fun s _ h => (by cases h)⟩, fun s hs => ?_, fun g => ?_, fun s _ h => (by cases h), fun u hu => ?_⟩
  · have e1 : isTk (List.replicate n 0) s = false := by
      unfold isTk ML.cy
      rw [flows_rep0, rep_getD, rep_getD]
      rfl
    rw [e1]
  · rw [ML.sumN_congr (h := fun _ => (0 : Int)) (fun s _ => if_neg (fun z => by cases z)), ML.sumN_zero]
    rfl
  · rw [flows_rep0, rep_getD]
    unfold ML.psd ML.ev
    rw [ML.sumN_congr (h := fun _ => (0 : Int)) (fun s _ => if_neg (fun z => by cases z.1)), ML.sumN_zero]
theorem Put.step {n : Nat} {cc far : List Int} {i L : Nat} (P : Put n cc far) (l : cc.length = n) (mo : More cc i L) : Put n (plus cc i) (far ++ [(L : Int)]) := by
  obtain ⟨o, h, d, pl, occ, sm, mem, ps⟩ := P.ex
  have hi := mo.ha
  rw [l] at hi
  have n0 : 0 < n := by omega
  have Ll := mo.pas.lt
  rw [l] at Ll
  have no := mo.no
  rw [l] at no
  have xl : (i + L) % n < n := Nat.mod_lt _ n0
  have ox : o ((i + L) % n) = false := by
    cases e : o ((i + L) % n) with
    | false => rfl
    | true =>
      have := (occ _ xl).mp e
      rw [no] at this
      cases this
  generalize hx : (i + L) % n = x at no xl ox
  refine ⟨fun s => o s || decide (s = x), fun s => if s = x then i else h s, fun s => if s = x then L else d s, ⟨fun s hs q => ?_, fun s hs q => ?_⟩, fun s hs => ?_, fun g => ?_, fun s hs q => ?_, fun u hu => ?_⟩
  · by_cases e : s = x
    · simp only [if_pos e]; exact hi
    · simp only [if_neg e]
      simp [e] at q
      exact pl.home s hs q
  · by_cases e : s = x
    · simp only [if_pos e]
      exact ⟨Ll, by rw [hx, e]⟩
    · simp only [if_neg e]
      simp [e] at q
      exact pl.far s hs q
  · have t := mo.tk (s := s) (by rw [l]; exact hs)
    rw [l, hx] at t
    rw [t, Bool.or_eq_true, decide_eq_true_eq, occ s hs]
  · rw [List.map_append, ML.sumL_append, sm g]
    have up := sumN_upd (n := n) (x := x) (g := fun s => if o s = true then g (d s) else 0) (g' := fun s => if (o s || decide (s = x)) = true then g ((if s = x then L else d s : Nat) : Int) else 0) xl fun s _ ne => by
      simp only [ne, decide_false, Bool.or_false, if_false]
    rw [up]
    simp only [ox, Bool.false_or, decide_true, if_true]
    show _ + (g L + 0) = _
    simp
  · by_cases e : s = x
    · simp only [if_pos e]; simp
    · simp only [if_neg e]
      simp [e] at q
      exact List.mem_append_left _ (mem s hs q)
  · have up := sumN_upd (n := n) (x := x) (g := ML.ev n (fun s => o s = true) h d u 0) (g' := ML.ev n (fun s => (o s || decide (s = x)) = true) (fun s => if s = x then i else h s) (fun s => if s = x then L else d s) u 0) xl fun s _ ne => by
      unfold ML.ev
      simp only [ne, decide_false, Bool.or_false, if_false]
    unfold ML.psd
    rw [up, mo.flows, addL_at (by rw [ML.flowsI_length, l]; exact hu), ML.flowsI_length, l, ← ps u hu]
    unfold ML.psd ML.ev
    simp only [ox, Bool.false_or, decide_true, if_true, Nat.add_zero, true_and, if_false, Bool.false_eq_true, false_and]
    omega
theorem Put.sq {n : Nat} {c far : List Int} (P : Put n c far) (l : c.length = n) (hc : Cnt c) : sqSum (waitsI c) ≤ ML.sumL (far.map fun x => x * x) := by
  obtain ⟨o, h, d, pl, occ, sm, mem, ps⟩ := P.ex
  have n0 : 0 < n := by have := hc.pos; omega
  have z := ML.psd_sq pl n0 fun u hu => by
    rw [ps u hu]
    have := flow_le hc (u := u) (by omega)
    omega
  rw [sq_waits_flows hc, l, sm]
  rw [ML.sumN_congr (h := fun u => (ML.flowsI c).getD u 0 * (ML.flowsI c).getD u 0) fun u hu => by rw [ps u hu]] at z
  exact z
theorem Put.max {n : Nat} {c far : List Int} (P : Put n c far) (l : c.length = n) (hc : Cnt c) {w : Int} (hw : w ∈ waitsI c) (w0 : 0 < w) : ∃ x ∈ far, w ≤ x := by
  obtain ⟨o, h, d, pl, occ, sm, mem, ps⟩ := P.ex
  obtain ⟨u, hu, le⟩ := wait_flow hc hw
  rw [l] at hu
  rw [← ps u hu] at le
  obtain ⟨s, hs', os, q⟩ := ML.psd_far pl hu (by omega)
  exact ⟨_, mem s hs' os, by omega⟩
end DL
namespace ML
end ML
namespace DL
open PySem PySem.Spec PyProof.Rows L2 LamX PySem.W SL
structure Rok (rs : List (Int × Int)) : Prop where
  n : ML.Rn rs
  few : rs.length ≤ 1000
  sm : ∀ p ∈ rs, p.1 < 2 ^ 63 ∧ p.2 < 2 ^ 63
  room : (rs.map fun p => p.1 * p.2).sum ≤ (rs.map fun p => p.1).sum
abbrev spr (rs : List (Int × Int)) : List Int := ML.spread rs
theorem Rok.nn1 {rs : List (Int × Int)} (R : Rok rs) : ∀ p ∈ rs, 0 ≤ p.1 := fun p hp => by have := R.n.size p hp; omega
theorem Rok.room2 {rs : List (Int × Int)} (R : Rok rs) : ML.sumL (spr rs) ≤ (spr rs).length := by
  obtain ⟨a, b⟩ := ML.spread_sum rs R.nn1
  have := R.room
  show ML.sumL (ML.spread rs) ≤ ((ML.spread rs).length : Int)
  rw [a, b]
  exact this
theorem Rok.ne2 {rs : List (Int × Int)} (R : Rok rs) : spr rs ≠ [] := by
  obtain ⟨p, r, rfl⟩ := List.exists_cons_of_ne_nil R.n.ne
  have := R.n.size p (by simp)
  show ML.spread (p :: r) ≠ []
  rw [ML.spread_cons]
  intro e
  have := congrArg List.length e
  simp at this
  omega
theorem Runs.seq {rs : List (Int × Int)} {d : D} (h : Runs rs d) (st : DSt) : seqS st d = some (rs.map pairD) := by rcases h with rfl | rfl <;> rfl
theorem flows_nn (c : List Int) : ∀ x ∈ ML.flowsI c, 0 ≤ x := fun x hx => ML.scan_nn _ _ x hx
end DL
namespace DL
open PySem PySem.Spec PyProof.Rows L2 LamX PySem.W SL
section
variable {T : List (Addr × Str)} {X : Cx} {K : Frag} {a b : Expr} {fa fb : DTE} {pos : Pos}
end
end DL
namespace DL
open PySem PySem.Spec PyProof.Rows L2 LamX PySem.W SL
end DL
namespace DL
open PySem PySem.Spec PyProof.Rows L2 LamX PySem.W SL
def F_law_v7 (g__law_pool : DRs) (g__law_right : DRs) : DTS := (sRet (dCB dAll (daCons (dLcG (wRng1 (daCons (dCB dMax2 (daCons (dC (.int 1)) (daCons (dCB dMin2 (daCons (dC (.int 2)) (daCons (dCB dLen (daCons (dVar 0) daNil)) daNil))) daNil))) daNil)) (gNm 1) dtYes (dCB g__law_right (daCons (dCB g__law_pool (daCons (dVar 0) (daCons (dVar 1) daNil))) daNil)) [1] finT) daNil)))
end DL
namespace DL
open PySem PySem.Spec PyProof.Rows L2 LamX PySem.W SL
end DL
namespace DL
open PySem PySem.Spec PyProof.Rows L2 LamX PySem.W SL
structure HalfR (m : Nat) (E : Nat → Nat → Prop) (rs : List (List Int)) : Prop where
  len : rs.length = m
  nd : ∀ x, x < m → (rs.getD x []).Nodup
  inr : ∀ x, x < m → ∀ z ∈ rs.getD x [], ∃ y : Nat, y < m ∧ z = (y : Int) ∧ (E x y ∨ E y x)
  one : ∀ x y, x < m → y < m → E x y → ((y : Int) ∈ rs.getD x [] ↔ ¬ (x : Int) ∈ rs.getD y [])
section
variable {m : Nat} {E F : Nat → Nat → Prop} {rs : List (List Int)}
theorem HalfR.congr (h : HalfR m E rs) (e : ∀ x y, x < m → y < m → (E x y ↔ F x y)) : HalfR m F rs :=
  ⟨h.len, h.nd, fun x hx z hz => by
    obtain ⟨y, hy, ez, q⟩ := h.inr x hx z hz
    exact ⟨y, hy, ez, q.imp (e x y hx hy).mp (e y x hy hx).mp⟩, fun x y hx hy q => h.one x y hx hy ((e x y hx hy).mpr q)⟩
theorem HalfR.start (m : Nat) (E : Nat → Nat → Prop) (no : ∀ x y, ¬ E x y) : HalfR m E (List.replicate m []) := by
  have z : ∀ x, (List.replicate m ([] : List Int)).getD x [] = [] := fun x => by
    rw [List.getD_eq_getElem?_getD, List.getElem?_replicate]
    split <;> rfl
  refine ⟨by simp, fun x hx => by rw [z]; exact List.nodup_nil, fun x hx y hy => ?_, fun x y hx hy q => absurd q (no x y)⟩
  rw [z] at hy
  cases hy
theorem HalfR.step {a b u v : Nat} (h : HalfR m E rs) (ab : a ≠ b) (ha : a < m) (hb : b < m) (n1 : ¬ E a b) (n2 : ¬ E b a) (uv : (u = a ∧ v = b) ∨ (u = b ∧ v = a)) : HalfR m (fun x y => E x y ∨ (x = a ∧ y = b)) (rs.set u (rs.getD u [] ++ [(v : Int)])) := by
  have hum : u < m := by omega
  have hvm : v < m := by omega
  have hu : u < rs.length := by rw [h.len]; exact hum
  have no : ¬ E u v ∧ ¬ E v u := by
    rcases uv with ⟨rfl, rfl⟩ | ⟨rfl, rfl⟩
    · exact ⟨n1, n2⟩
    · exact ⟨n2, n1⟩
  have nv : ¬ (v : Int) ∈ rs.getD u [] := fun z => by
    obtain ⟨y, hy, ez, q⟩ := h.inr u hum _ z
    have : y = v := by omega
    subst this
    exact q.elim no.1 no.2
  have nu : ¬ (u : Int) ∈ rs.getD v [] := fun z => by
    obtain ⟨y, hy, ez, q⟩ := h.inr v hvm _ z
    have : y = u := by omega
    subst this
    exact q.elim no.2 no.1
  refine ⟨by rw [List.length_set]; exact h.len, fun x hx => ?_, fun x hx z hz => ?_, fun x y hx hy q => ?_⟩
  · by_cases e : x = u
    · subst e
      rw [List.getD_eq_getElem?_getD (l := rs.set _ _), List.getElem?_set_self hu]
      show (rs.getD x [] ++ [(v : Int)]).Nodup
      rw [List.nodup_append]
      refine ⟨h.nd x hx, by simp, fun a ha b hb => ?_⟩
      rw [List.mem_singleton.mp hb]
      rintro rfl
      exact nv ha
    · rw [List.getD_eq_getElem?_getD (l := rs.set _ _), List.getElem?_set_ne (fun w => e w.symm), ← List.getD_eq_getElem?_getD]
      exact h.nd x hx
  · rcases (mem_setD hu).mp hz with q | ⟨e1, e2⟩
    · obtain ⟨y, hy, ez, q⟩ := h.inr x hx z q
      exact ⟨y, hy, ez, q.imp .inl .inl⟩
    · refine ⟨v, hvm, e2, ?_⟩
      rcases uv with ⟨rfl, rfl⟩ | ⟨rfl, rfl⟩
      · exact .inl (.inr ⟨e1, rfl⟩)
      · exact .inr (.inr ⟨rfl, e1⟩)
  · rw [mem_setD hu, mem_setD hu]
    by_cases e : x = a ∧ y = b
    · obtain ⟨rfl, rfl⟩ := e
      rcases uv with ⟨rfl, rfl⟩ | ⟨rfl, rfl⟩
      · constructor
        · rintro _ (z | ⟨z, _⟩)
          · exact nu z
          · exact ab z.symm
        · exact fun _ => .inr ⟨rfl, rfl⟩
      · constructor
        · rintro (z | ⟨z, _⟩) _
          · exact nu z
          · exact ab z
        · exact fun z => absurd (.inr ⟨rfl, rfl⟩) z
    · have q' : E x y := q.elim id fun w => absurd w e
      have z := h.one x y hx hy q'
      have w1 : ¬ (x = u ∧ (y : Int) = (v : Int)) := fun w => by
        have : y = v := by omega
        rw [w.1, this] at q'
        exact no.1 q'
      have w2 : ¬ (y = u ∧ (x : Int) = (v : Int)) := fun w => by
        have : x = v := by omega
        rw [w.1, this] at q'
        exact no.2 q'
      simp only [w1, w2, or_false]
      exact z
theorem HalfR.few (h : HalfR m E rs) {u : Nat} (hu : u < m) : (rs.getD u []).length ≤ m := by
  have z := sub_len (ys := DL.R m) (h.nd u hu) fun x hx => by
    obtain ⟨y, hy, ez, _⟩ := h.inr u hu x hx
    rw [R_mem]
    omega
  rw [R_length] at z
  exact z
theorem HalfR.tb (h : HalfR m E rs) (all : ∀ x y, x < m → y < m → x ≠ y → E x y ∨ E y x) (irr : ∀ x, ¬ E x x) : Tb m (rs.map sortI) := by
  refine Half.tb ⟨h.len, h.nd, fun x hx z hz => ?_, fun x y hx hy q => ?_⟩
  · obtain ⟨y, hy, ez, q⟩ := h.inr x hx z hz
    have ne : x ≠ y := fun e => by
      subst e
      exact q.elim (irr x) (irr x)
    refine ⟨y, hy, ez, ?_⟩
    unfold Dn
    omega
  · unfold Dn at q
    rcases all x y hx hy (by omega) with e | e
    · exact h.one x y hx hy e
    · have := h.one y x hy hx e
      constructor
      · exact fun a b => this.mp b a
      · exact fun a => Classical.byContradiction fun b => a (this.mpr b)
end
def Along (hs : List Nat) (a b x y : Nat) : Prop := ∃ i j, i < j ∧ hs[i]? = some x ∧ hs[j]? = some y ∧ (i < a ∨ (i = a ∧ j < b))
theorem nd_ix {hs : List Nat} (nd : hs.Nodup) {i j x : Nat} (h : hs[i]? = some x) (q : hs[j]? = some x) : i = j := by
  have li := (List.getElem?_eq_some_iff.mp h).1
  have lj := (List.getElem?_eq_some_iff.mp q).1
  have e : hs[i] = hs[j] := by
    have h2 := (List.getElem?_eq_some_iff.mp h).2
    have q2 := (List.getElem?_eq_some_iff.mp q).2
    rw [h2, q2]
  have pw := List.pairwise_iff_getElem.mp nd
  rcases Nat.lt_trichotomy i j with w | w | w
  · exact absurd e (pw i j li lj w)
  · exact w
  · exact absurd e.symm (pw j i lj li w)
theorem Along.step {hs : List Nat} (nd : hs.Nodup) {a b u v x y : Nat} (ab : a < b) (hu : hs[a]? = some u) (hv : hs[b]? = some v) : (Along hs a b x y ∨ (x = u ∧ y = v)) ↔ Along hs a (b + 1) x y := by
  constructor
  · rintro (⟨i, j, ij, h1, h2, q⟩ | ⟨rfl, rfl⟩)
    · exact ⟨i, j, ij, h1, h2, by omega⟩
    · exact ⟨a, b, ab, hu, hv, by omega⟩
  · rintro ⟨i, j, ij, h1, h2, q⟩
    by_cases e : i = a ∧ j = b
    · obtain ⟨rfl, rfl⟩ := e
      rw [hu] at h1
      rw [hv] at h2
      exact .inr ⟨(Option.some.inj h1).symm, (Option.some.inj h2).symm⟩
    · exact .inl ⟨i, j, ij, h1, h2, by omega⟩
theorem Along.not {hs : List Nat} (nd : hs.Nodup) {a b u v : Nat} (ab : a < b) (hu : hs[a]? = some u) (hv : hs[b]? = some v) : ¬ Along hs a b u v ∧ ¬ Along hs a b v u := by
  constructor
  · rintro ⟨i, j, ij, h1, h2, q⟩
    have := nd_ix nd h1 hu
    have := nd_ix nd h2 hv
    omega
  · rintro ⟨i, j, ij, h1, h2, q⟩
    have := nd_ix nd h1 hv
    have := nd_ix nd h2 hu
    omega
end DL
namespace DL
open PySem PySem.Spec PyProof.Rows L2 LamX PySem.W SL
structure Rul (m n : Nat) (R : List (List (List Int))) : Prop where
  len : R.length = n
  tb : ∀ t ∈ R, Tb m t
  m0 : 1 ≤ m
  m16 : m ≤ 16
  n0 : 1 ≤ n
  n16 : n ≤ 16
theorem Rul.at0 {m n : Nat} {R : List (List (List Int))} (W : Rul m n R) : atI (R.map rowsD) 0 = some (.tup ((R.getD 0 []).map rowD)) ∧ (R.getD 0 []).length = m := by
  have lR := W.len
  have n0 := W.n0
  have h := List.getElem?_eq_getElem (l := R) (i := 0) (by omega)
  have e : R.getD 0 [] = R[0] := by rw [List.getD_eq_getElem?_getD, h]; rfl
  rw [e]
  exact ⟨at_map (i := 0) h, (W.tb _ (List.getElem_mem _)).len⟩
end DL
namespace DL
open PySem PySem.Spec PyProof.Rows L2 LamX PySem.W SL
theorem extend_ref {st : DSt} {n : Nat} {xs ys : List D} {Q : DK} (e : st[n]? = some (.lst xs)) (lt : xs.length + ys.length ≤ sizeLine) (q : Q .non (st.set n (.lst (xs ++ ys)))) : mExtend (.ref n) [.lst ys] st Q := by
  unfold mExtend
  simp only [e_on1, onL, e]
  exact ⟨lt, q⟩
end DL
namespace DL
open PySem PySem.Spec PyProof.Rows L2 LamX PySem.W SL
section
variable {m n : Nat} {P : List (List Int)} {R : List (List (List Int))}
def oth (sl : List Int) (a : Nat) : List Nat := (sl.filter fun x => !decide (x = -1) && !decide (x = (a : Int))).map Int.toNat
theorem oth_mem {sl : List Int} (L : Lay m n sl) {a k : Nat} : k ∈ oth sl a ↔ (∃ s, At sl s k) ∧ k ≠ a := by
  unfold oth
  rw [List.mem_map]
  constructor
  · rintro ⟨x, hx, rfl⟩
    obtain ⟨h1, h2⟩ := List.mem_filter.mp hx
    simp only [Bool.and_eq_true, Bool.not_eq_true', decide_eq_false_iff_not] at h2
    have r := L.rng x h1
    obtain ⟨s, hs⟩ := List.mem_iff_getElem?.mp h1
    refine ⟨⟨s, ?_⟩, by omega⟩
    unfold At
    rw [hs]
    congr 1
    omega
  · rintro ⟨⟨s, hs⟩, ne⟩
    refine ⟨(k : Int), List.mem_filter.mpr ⟨List.mem_of_getElem? hs, ?_⟩, by omega⟩
    simp only [Bool.and_eq_true, Bool.not_eq_true', decide_eq_false_iff_not]
    omega
theorem oth_hist {sl : List Int} (L : Lay m n sl) {a : Nat} : Hist m n (oth sl a) := by
  refine ⟨?_, fun k hk => ?_, ?_⟩
  · unfold oth
    rw [List.Nodup, List.pairwise_map]
    have pw : sl.Pairwise fun x y => x ≠ -1 → y ≠ -1 → x ≠ y := List.pairwise_iff_getElem.mpr fun i j hi hj lt h1 h2 e => by
      have r := L.rng _ (List.getElem_mem hi)
      have a1 : At sl i sl[i].toNat := by
        unfold At
        rw [List.getElem?_eq_getElem hi]
        congr 1
        omega
      have a2 : At sl j sl[i].toNat := by
        unfold At
        rw [List.getElem?_eq_getElem hj, ← e]
        congr 1
        omega
      have := L.inj _ _ _ a1 a2
      omega
    refine List.Pairwise.imp_of_mem ?_ (pw.filter _)
    intro x y hx hy h e
    obtain ⟨x1, x2⟩ := List.mem_filter.mp hx
    obtain ⟨y1, y2⟩ := List.mem_filter.mp hy
    simp only [Bool.and_eq_true, Bool.not_eq_true', decide_eq_false_iff_not] at x2 y2
    have := L.rng x x1
    have := L.rng y y1
    exact h x2.1 y2.1 (by omega)
  · exact (L.key ((oth_mem L).mp hk).1.choose_spec).1
  · unfold oth
    rw [List.length_map]
    have := List.length_filter_le (fun x => !decide (x = -1) && !decide (x = (a : Int))) sl
    rw [L.len] at this
    exact this
end
end DL
namespace DL
open PySem PySem.Spec PyProof.Rows L2 LamX PySem.W SL
end DL
namespace DL
open PySem PySem.Spec PyProof.Rows L2 LamX PySem.W SL
end DL
namespace DL
open PySem PySem.Spec PyProof.Rows L2 LamX PySem.W SL
section
variable {m n : Nat} {P : List (List Int)} {R : List (List (List Int))}
def First (m n : Nat) (P : List (List Int)) (s0 : Nat) : Prop := s0 < n ∧ ∀ a, a < m → pr P a 0 = s0
theorem First.ne (S : Setg m n P R) {s0 a i : Nat} (F : First m n P s0) (ha : a < m) (hi : i < n) (i1 : 1 ≤ i) : pr P a i ≠ s0 := fun e => by
  have h := S.rk_pr ha hi
  rw [e, ← F.2 a ha, S.rk_pr ha (by omega)] at h
  omega
end
end DL
namespace DL
open PySem PySem.Spec PyProof.Rows L2 LamX PySem.W SL
section
variable {m n : Nat} {P : List (List Int)} {R : List (List (List Int))}
end
theorem eq_lst {st : DSt} {k c : Nat} {xs : List D} {Q : DK} (sm : Sm k c (.lst xs)) (hk : k ≤ 50) (neg : Bool) (q : Q (.bl (if neg then false else true)) st) : dEqG neg (.lst xs) (.lst xs) st Q := by
  obtain ⟨p, e1, el⟩ := sm
  have p1 : pdS st (.lst xs) = some p := by rw [← e1]; rfl
  show dEqD neg (.lst xs) (.lst xs) st Q
  unfold dEqD
  rw [p1]
  refine ⟨⟨Sm.shaped el hk, Sm.shaped el hk⟩, ?_⟩
  rw [pdT_eqv e1]
  cases neg <;> exact q
end DL
namespace DL
open PySem PySem.Spec PyProof.Rows L2 LamX PySem.W SL
def hI (h : List Nat) : List Int := h.map fun k : Nat => (k : Int)
theorem hist_row (h : List Nat) : histD h = rowD (hI h) := by
  unfold histD rowD hI
  rw [List.map_map]
  rfl
end DL
namespace DL
open PySem PySem.Spec PyProof.Rows L2 LamX PySem.W SL
section
variable {m n : Nat} {P : List (List Int)} {R : List (List (List Int))}
end
theorem Hist.ofPerm {m n : Nat} {h h2 : List Nat} (H : Hist m n h) (p : h2.Perm h) : Hist m n h2 := ⟨p.nodup_iff.mpr H.nd, fun k hk => H.lt k (p.mem_iff.mp hk), by rw [p.length_eq]; exact H.few⟩
theorem nin_seq {st : DSt} {y : D} {ns : List Int} {x : Int} {Q : DK} (e : seqS st y = some (ns.map D.int)) (q : Q (.bl (!decide (x ∈ ns))) st) : dInG true (.int x) y st Q := by
  simp only [e_nin, e, e_onO]
  refine ⟨⟨rfl, flat_row ns⟩, ?_⟩
  have z : (ns.map D.int).any (fun y => eqF y (.int x)) = decide (x ∈ ns) := by
    rw [Bool.eq_iff_iff, List.any_eq_true, decide_eq_true_eq]
    constructor
    · rintro ⟨d, hd, e⟩
      obtain ⟨i, hi, rfl⟩ := List.mem_map.mp hd
      have e' : (i == x) = true := e
      have : i = x := by simpa using e'
      rw [← this]; exact hi
    · intro h
      exact ⟨.int x, List.mem_map.mpr ⟨x, h, rfl⟩, by show (x == x) = true; simp⟩
  rw [z]
  exact q
end DL
namespace DL
open PySem PySem.Spec PyProof.Rows L2 LamX PySem.W SL
end DL
namespace DL
open PySem PySem.Spec PyProof.Rows L2 LamX PySem.W SL
theorem maxI_alike {l l2 : List Int} (n1 : ∀ x ∈ l, 0 ≤ x) (n2 : ∀ x ∈ l2, 0 ≤ x) (same : ∀ g : Nat → Int, g 0 = 0 → ML.sumL (l2.map fun w => g w.toNat) = ML.sumL (l.map fun w => g w.toNat)) : maxI l = maxI l2 := by
  have le : ∀ {l l2 : List Int}, (∀ x ∈ l, 0 ≤ x) → (∀ x ∈ l2, 0 ≤ x) → (∀ g : Nat → Int, g 0 = 0 → ML.sumL (l2.map fun w => g w.toNat) = ML.sumL (l.map fun w => g w.toNat)) → maxI l ≤ maxI l2 := fun {l l2} n1 n2 same => by
    obtain ⟨a, b⟩ := maxI_spec l n1
    obtain ⟨a2, b2⟩ := maxI_spec l2 n2
    have z2 : 0 ≤ maxI l2 := by
      rcases a2 with ⟨_, z⟩ | z
      · omega
      · exact n2 _ z
    rcases a with ⟨_, z⟩ | z
    · omega
    · by_cases p : 0 < maxI l
      · obtain ⟨y, hy, w⟩ := max_alike n1 same z p
        have := b2 y hy
        omega
      · omega
  exact Int.le_antisymm (le n1 n2 same) (le n2 n1 fun g g0 => (same g g0).symm)
theorem max_waits_flows {c : List Int} (hc : Cnt c) : maxI (waitsI c) = maxI (ML.flowsI c) := by
  refine maxI_alike (waits_nn hc) (flows_nn c) fun g g0 => ?_
  rw [waits_sum g g0 hc, ML.sumL_N, List.length_map, ML.flowsI_length]
  refine ML.sumN_congr fun s hs => ?_
  rw [List.getD_eq_getElem?_getD, List.getElem?_map, List.getD_eq_getElem?_getD, List.getElem?_eq_getElem (by rw [ML.flowsI_length]; exact hs)]
  rfl
theorem Rok.cnt {rs : List (Int × Int)} (R : Rok rs) (l : (spr rs).length ≤ 900) : Cnt (spr rs) := by
  refine ⟨R.ne2, l, fun x hx => ?_, R.room2⟩
  obtain ⟨p, hp, hx⟩ := List.mem_flatMap.mp hx
  rw [List.eq_of_mem_replicate hx]
  exact R.n.nn p hp
end DL
namespace DL
open PySem PySem.Spec PyProof.Rows L2 LamX PySem.W SL
def farR (n : Nat) (P : List (List Int)) : List (List (List Int)) := (List.range n).map fun s : Nat => ordT (farO P s)
theorem farR_bt {n : Nat} {P : List (List Int)} {s a b : Nat} (hs : s < n) (ha : a < P.length) (h : bt (farR n P) s a b = true) : Far P s a b := by
  unfold bt at h
  have h' := of_decide_eq_true h
  have e : (farR n P).getD s [] = ordT (farO P s) := by
    unfold farR
    rw [List.getD_eq_getElem?_getD, List.getElem?_map, List.getElem?_range hs]
    rfl
  rw [e, far_row ha, List.mem_map] at h'
  obtain ⟨c, hc, ec⟩ := h'
  have : c = b := by omega
  subst this
  rw [List.mem_filter, List.mem_filter] at hc
  exact of_decide_eq_true hc.1.2
theorem farR_rk {n : Nat} {P : List (List Int)} {s a b : Nat} (hs : s < n) (ha : a < P.length) (h : bt (farR n P) s a b = true) : rk P b s ≤ rk P a s := by
  have f := farR_bt hs ha h
  unfold Far ixP at f
  unfold rk
  omega
section
variable {m n : Nat} {hs : List Nat} {P : List (List Int)} {R : List (List (List Int))}
theorem stb_row (S : Lin m n hs P R) {sl : List Int} (g : Good m n P sl) (st : Stb P R sl) (F : ∀ s a b, s < n → a < m → b < m → bt R s a b = true → rk P b s ≤ rk P a s) : ML.InRow n (fun s => 0 ≤ sl.getD s (-1)) (fun s => ML.dist n (hm hs (sl.getD s (-1)).toNat) s) := by
  intro s hs' o d0
  have n0 := S.n0
  obtain ⟨k, hk⟩ := (occ_iff g.lay hs').mp o
  have kt : ((k : Nat) : Int).toNat = k := by omega
  have km : k < m := by
    have z := g.lay.rng (sl.getD s (-1)) (getD_memL (by rw [g.lay.len]; exact hs'))
    rw [hk.getD] at z
    omega
  have hl := S.hm_lt km
  simp only [hk.getD, kt] at d0 ⊢
  have dl := ML.dist_lt (n := n) (a := hm hs k) (i := s) n0
  have de := (ML.dist_eq (n := n) hl hs' dl).mp rfl
  have rr := S.rk km hs'
  generalize ML.dist n (hm hs k) s = d at d0 dl de rr ⊢
  have pe : DL.pr P k (d - 1) = (s + (n - 1)) % n := by
    rw [S.pr km (by omega), de, Nat.mod_add_mod, show hm hs k + d + (n - 1) = hm hs k + (d - 1) + n by omega, Nat.add_mod_right]
  have ul : (s + (n - 1)) % n < n := Nat.mod_lt _ n0
  obtain ⟨k', hk'⟩ := g.ah s k hk (d - 1) (by omega)
  have b := st s k hk (d - 1) (by omega) k' hk'
  rw [pe] at hk' b
  have kt' : ((k' : Nat) : Int).toNat = k' := by omega
  have km' : k' < m := by
    have z := g.lay.rng (sl.getD ((s + (n - 1)) % n) (-1)) (getD_memL (by rw [g.lay.len]; exact ul))
    rw [hk'.getD] at z
    omega
  have f := F _ k' k ul km' km b
  have w := S.s.rk_pr km (show d - 1 < n by omega)
  rw [pe] at w
  rw [w, S.rk km' ul] at f
  simp only [hk'.getD, kt']
  exact ⟨by omega, by omega⟩
theorem row_sq_eq (S : Lin m n hs P R) {sl c : List Int} (L : Lay m n sl) (I : LineOk n hs c sl) (W : ML.InRow n (fun s => 0 ≤ sl.getD s (-1)) (fun s => ML.dist n (hm hs (sl.getD s (-1)).toNat) s)) : ML.sumL ((farI n hs sl).map fun x => x * x) = sqSum (waitsI c) := by
  have le : ∀ u, u < n → pa n hs sl u ≤ n := fun u hu => by
    rw [I.pas u hu]
    have z := flow_le I.cnt (u := u) (by rw [I.len]; exact hu)
    rw [I.len] at z
    exact z.2
  have z := ML.row_sq (lay_pl S L) W S.n0 le
  rw [sq_waits_flows I.cnt, I.len]
  unfold farI
  rw [List.map_map, sumL_filter]
  rw [ML.sumN_congr (g := fun s => (ML.flowsI c).getD s 0 * (ML.flowsI c).getD s 0) (h := fun u => pa n hs sl u * pa n hs sl u) fun u hu => by rw [I.pas u hu]]
  refine Eq.trans ?_ z.symm
  refine ML.sumN_congr fun s _ => ?_
  simp only [decide_eq_true_eq, Function.comp]
theorem maxI_le {l : List Int} (h : ∀ x ∈ l, 0 ≤ x) {m : Int} (m0 : 0 ≤ m) (le : ∀ x ∈ l, x ≤ m) : maxI l ≤ m := by
  rcases (maxI_spec l h).1 with ⟨_, e⟩ | e
  · omega
  · exact le _ e
theorem maxI_nn {l : List Int} (h : ∀ x ∈ l, 0 ≤ x) : 0 ≤ maxI l := by
  rcases (maxI_spec l h).1 with ⟨_, e⟩ | e
  · omega
  · exact h _ e
theorem row_max_eq (S : Lin m n hs P R) {sl c : List Int} (L : Lay m n sl) (I : LineOk n hs c sl) (W : ML.InRow n (fun s => 0 ≤ sl.getD s (-1)) (fun s => ML.dist n (hm hs (sl.getD s (-1)).toNat) s)) : maxI (farI n hs sl) = maxI (waitsI c) := by
  have fn : ∀ x ∈ ML.flowsI c, 0 ≤ x := fun x hx => (I.cnt.fl x hx).1
  have pn : ∀ x ∈ farI n hs sl, 0 ≤ x := fun x hx => (far_lt n hs sl S.n0 x hx).1
  rw [max_waits_flows I.cnt]
  refine Int.le_antisymm (maxI_le pn (maxI_nn fn) fun x hx => ?_) (maxI_le fn (maxI_nn pn) fun x hx => ?_)
  · obtain ⟨s, hs', rfl⟩ := List.mem_map.mp hx
    obtain ⟨r, o⟩ := List.mem_filter.mp hs'
    have sl' := List.mem_range.mp r
    have o' := of_decide_eq_true o
    by_cases z : 0 < ML.dist n (hm hs (sl.getD s (-1)).toNat) s
    · have w := ML.row_max (lay_pl S L) W sl' o' z
      have hh := (lay_pl S L).home s sl' o'
      have p : pa n hs sl (hm hs (sl.getD s (-1)).toNat) = _ := I.pas _ hh
      refine Int.le_trans w (Int.le_trans (Int.le_of_eq p) ((maxI_spec _ fn).2 _ (getD_mem (by rw [ML.flowsI_length, I.len]; exact hh))))
    · have := maxI_nn fn
      omega
  · by_cases x0 : 0 < x
    · obtain ⟨u, hu, e⟩ := List.mem_iff_getElem.mp hx
      have ul : u < n := by rw [← I.len, ← ML.flowsI_length]; exact hu
      have e' : (ML.flowsI c).getD u 0 = x := by rw [List.getD_eq_getElem?_getD, List.getElem?_eq_getElem hu, e]; rfl
      have p := I.pas u ul
      rw [e'] at p
      obtain ⟨s, hs', o, q⟩ := ML.psd_far (lay_pl S L) ul (by show 0 < pa n hs sl u; omega)
      have q' : pa n hs sl u ≤ ((ML.dist n (hm hs (sl.getD s (-1)).toNat) s : Nat) : Int) := q
      have mm := (maxI_spec _ pn).2 _ (List.mem_map.mpr ⟨s, List.mem_filter.mpr ⟨List.mem_range.mpr hs', decide_eq_true o⟩, rfl⟩)
      omega
    · have := maxI_nn pn
      omega
end
end DL
namespace ML
def ky (ps : List (Nat × Nat)) (s : Nat) : Nat := ((ps.find? fun p => decide (p.2 = s)).getD (0, 0)).1
theorem sumN_at {n x : Nat} (h : x < n) (v : Int) : sumN n (fun i => if i = x then v else 0) = v := by
  have e : sumN n (fun i => if i = x then v else 0) = sumN n (fun i => v * if i = x then (1 : Int) else 0) := sumN_congr fun i _ => by
    by_cases c : i = x
    · rw [if_pos c, if_pos c]; omega
    · rw [if_neg c, if_neg c]; omega
  rw [e, sumN_mul, sumN_one h]
  omega
theorem ky_head {p : Nat × Nat} {ps : List (Nat × Nat)} : ky (p :: ps) p.2 = p.1 := by
  unfold ky
  rw [List.find?_cons_of_pos (by simp)]
  rfl
theorem ky_tail {p : Nat × Nat} {ps : List (Nat × Nat)} {s : Nat} (h : s ≠ p.2) : ky (p :: ps) s = ky ps s := by
  unfold ky
  rw [List.find?_cons_of_neg (by simpa using fun z => h z.symm)]
theorem pairs_sum {n : Nat} (G : Nat → Nat → Int) : ∀ ps : List (Nat × Nat), (ps.map Prod.snd).Nodup → (∀ p ∈ ps, p.2 < n) → sumN n (fun s => if s ∈ ps.map Prod.snd then G (ky ps s) s else 0) = sumL (ps.map fun p => G p.1 p.2)
  | [], _, _ => by
    rw [sumN_congr (h := fun _ => 0) fun i _ => by rw [if_neg (by simp)]]
    rw [sumN_zero]
    rfl
  | p :: ps, nd, lt => by
    have nd' := List.nodup_cons.mp (by simpa using nd : (p.2 :: ps.map Prod.snd).Nodup)
    have ih := pairs_sum G ps nd'.2 fun q hq => lt q (List.mem_cons_of_mem _ hq)
    rw [List.map_cons, List.map_cons, sumL_cons, ← ih, ← sumN_at (lt p List.mem_cons_self) (G p.1 p.2), ← sumN_add]
    refine sumN_congr fun s _ => ?_
    by_cases c : s = p.2
    · subst c
      rw [if_pos List.mem_cons_self, if_pos rfl, if_neg nd'.1, ky_head]
      omega
    · rw [if_neg c, ky_tail c]
      by_cases d : s ∈ ps.map Prod.snd
      · rw [if_pos (List.mem_cons_of_mem _ d), if_pos d]; omega
      · rw [if_neg (fun z => (List.mem_cons.mp z).elim c d), if_neg d]; omega
theorem ky_mem {ps : List (Nat × Nat)} {s : Nat} (h : s ∈ ps.map Prod.snd) : (ky ps s, s) ∈ ps := by
  unfold ky
  cases e : ps.find? (fun p => decide (p.2 = s)) with
  | none =>
    obtain ⟨p, hp, ep⟩ := List.mem_map.mp h
    have := List.find?_eq_none.mp e p hp
    simp [ep] at this
  | some p =>
    have a := List.mem_of_find?_eq_some e
    have b := List.find?_some e
    have b' := of_decide_eq_true b
    show (p.1, s) ∈ ps
    rw [← b']
    exact a
end ML
namespace DL
open PySem PySem.Spec PyProof.Rows L2 LamX PySem.W SL
structure Way (m n : Nat) (c : List Int) (ps : List (Nat × Nat)) : Prop where
  ks : (ps.map Prod.fst).Perm (List.range m)
  ss : (ps.map Prod.snd).Nodup
  tk : ∀ s, s ∈ ps.map Prod.snd ↔ s < n ∧ isTk c s = true
theorem perm_sumL {a b : List Int} (p : a.Perm b) : ML.sumL a = ML.sumL b := by
  induction p with
  | nil => rfl
  | cons x _ ih => rw [ML.sumL_cons, ML.sumL_cons, ih]
  | swap x y l => simp only [ML.sumL_cons]; omega
  | trans _ _ h1 h2 => rw [h1, h2]
theorem sumL_count (p : Nat → Bool) : ∀ l : List Nat, ML.sumL (l.map fun k => if p k = true then (1 : Int) else 0) = (((l.filter p).length : Nat) : Int)
  | [] => rfl
  | x :: l => by
    rw [List.map_cons, ML.sumL_cons, sumL_count p l]
    by_cases e : p x = true
    · rw [if_pos e, List.filter_cons_of_pos e, List.length_cons]; omega
    · rw [if_neg e, List.filter_cons_of_neg e]; omega
section
variable {m n : Nat} {hs : List Nat} {c : List Int} {ps : List (Nat × Nat)}
theorem way_pl (hl : hs.length = m) (lt : ∀ h ∈ hs, h < n) (W : Way m n c ps) : ML.Pl n (fun s => s ∈ ps.map Prod.snd) (fun s => hm hs (ML.ky ps s)) (fun s => ML.dist n (hm hs (ML.ky ps s)) s) := by
  have km : ∀ s, s ∈ ps.map Prod.snd → hm hs (ML.ky ps s) < n := fun s h => by
    have a := W.ks.mem_iff.mp (List.mem_map.mpr ⟨_, ML.ky_mem h, rfl⟩)
    exact lt _ (getD_memL (by rw [hl]; exact List.mem_range.mp a))
  refine ⟨fun s _ h => km s h, fun s hs' h => ⟨ML.dist_lt (by omega), ?_⟩⟩
  exact ((ML.dist_eq (n := n) (km s h) hs' (ML.dist_lt (by omega))).mp rfl).symm
theorem way_ge (hl : hs.length = m) (lt : ∀ h ∈ hs, h < n) (hc : Cnt c) (ce : c = cntL n hs (List.range m)) (W : Way m n c ps) {u : Nat} (hu : u < n) : (ML.flowsI c).getD u 0 ≤ ML.psd n (fun s => s ∈ ps.map Prod.snd) (fun s => hm hs (ML.ky ps s)) (fun s => ML.dist n (hm hs (ML.ky ps s)) s) u := by
  have cl : c.length = n := by rw [ce, cntL_len]
  have F := hc.flow
  have cp := ML.cy_per c
  have fp := F.per
  have f0 := cy_flow (c := c) (u := u) (by rw [cl]; exact hu)
  rw [cl] at F cp fp
  rw [← f0]
  refine ML.psd_ge (way_pl hl lt W) F (by omega) hc.c0 cp (fun v hv => ?_) (fun i => ?_) u hu
  · have g := ML.pairs_sum (n := n) (fun k _ => if decide (hm hs k = v) = true then (1 : Int) else 0) ps W.ss fun p hp => ((W.tk p.2).mp (List.mem_map.mpr ⟨p, hp, rfl⟩)).1
    have e : ML.homes n (fun s => s ∈ ps.map Prod.snd) (fun s => hm hs (ML.ky ps s)) v = ML.sumN n (fun s => if s ∈ ps.map Prod.snd then (if decide (hm hs (ML.ky ps s) = v) = true then (1 : Int) else 0) else 0) := by
      unfold ML.homes
      refine ML.sumN_congr fun s _ => ?_
      by_cases a : s ∈ ps.map Prod.snd
      · by_cases b : hm hs (ML.ky ps s) = v
        · rw [if_pos ⟨a, b⟩, if_pos a, if_pos (decide_eq_true b)]
        · rw [if_neg (fun z => b z.2), if_pos a, if_neg (fun z => b (of_decide_eq_true z))]
      · rw [if_neg (fun z => a z.1), if_neg a]
    rw [e, g, ML.cy_lt (by rw [cl]; exact hv), ce, cntL_at _ _ hv, ← sumL_count]
    refine Eq.trans (perm_sumL (W.ks.map fun k => if decide (hm hs k = v) = true then (1 : Int) else 0)).symm ?_
    rw [List.map_map]
    rfl
  · have n0 : 0 < n := by omega
    have lm : (i + 1) % n < n := Nat.mod_lt _ n0
    show ((i + 1) % n ∈ ps.map Prod.snd ↔ _)
    rw [W.tk]
    unfold isTk
    rw [decide_eq_true_eq]
    have a : ML.cy (ML.flowsI c) ((i + 1) % n + (c.length - 1)) = ML.cy (ML.flowsI c) i := by
      have q : ∀ j, ML.cy (ML.flowsI c) (j % n) = ML.cy (ML.flowsI c) j := fun j => ML.per_mod fp j
      rw [← q, ← q i, cl, Nat.mod_add_mod, show i + 1 + (n - 1) = i + n by omega, Nat.add_mod_right]
    have b : c.getD ((i + 1) % n) 0 = ML.cy c (i + 1) := by unfold ML.cy; rw [cl]
    rw [a, b]
    exact ⟨fun z => z.2, fun z => ⟨lm, z⟩⟩
theorem way_sq (hl : hs.length = m) (lt : ∀ h ∈ hs, h < n) (n0 : 0 < n) (hc : Cnt c) (ce : c = cntL n hs (List.range m)) (W : Way m n c ps) : sqSum (waitsI c) ≤ ML.sumL (ps.map fun p => ((ML.dist n (hm hs p.1) p.2 : Nat) : Int) * ((ML.dist n (hm hs p.1) p.2 : Nat) : Int)) := by
  have cl : c.length = n := by rw [ce, cntL_len]
  have P := way_pl hl lt W
  have le : ∀ u, u < n → ML.psd n (fun s => s ∈ ps.map Prod.snd) (fun s => hm hs (ML.ky ps s)) (fun s => ML.dist n (hm hs (ML.ky ps s)) s) u ≤ n := fun u hu => by
    unfold ML.psd
    refine Int.le_trans (ML.sumN_le (h := fun _ => 1) fun s _ => ?_) (Int.le_of_eq (by rw [ML.sumN_const]; omega))
    unfold ML.ev
    split <;> omega
  have z := ML.psd_sq P n0 le
  have g := ML.pairs_sum (n := n) (fun k s => ((ML.dist n (hm hs k) s : Nat) : Int) * ((ML.dist n (hm hs k) s : Nat) : Int)) ps W.ss fun p hp => ((W.tk p.2).mp (List.mem_map.mpr ⟨p, hp, rfl⟩)).1
  rw [← g, sq_waits_flows hc, cl]
  refine Int.le_trans (ML.sumN_le fun u hu => ?_) z
  have a := way_ge hl lt hc ce W hu
  have b := (flow_le hc (u := u) (by rw [cl]; exact hu)).1
  exact Int.mul_le_mul a a b (Int.le_trans b a)
theorem way_max (hl : hs.length = m) (lt : ∀ h ∈ hs, h < n) (hc : Cnt c) (ce : c = cntL n hs (List.range m)) (W : Way m n c ps) {x : Int} (x0 : 0 ≤ x) (top : ∀ p ∈ ps, ((ML.dist n (hm hs p.1) p.2 : Nat) : Int) ≤ x) : maxI (waitsI c) ≤ x := by
  have cl : c.length = n := by rw [ce, cntL_len]
  have fn : ∀ x ∈ ML.flowsI c, 0 ≤ x := fun x hx => (hc.fl x hx).1
  rw [max_waits_flows hc]
  refine maxI_le fn x0 fun y hy => ?_
  by_cases y0 : 0 < y
  · obtain ⟨u, hu, e⟩ := List.mem_iff_getElem.mp hy
    have ul : u < n := by rw [← cl, ← ML.flowsI_length]; exact hu
    have e' : (ML.flowsI c).getD u 0 = y := by rw [List.getD_eq_getElem?_getD, List.getElem?_eq_getElem hu, e]; rfl
    have a := way_ge hl lt hc ce W ul
    rw [e'] at a
    obtain ⟨s, hs', o, q⟩ := ML.psd_far (way_pl hl lt W) ul (by omega)
    have t := top _ (ML.ky_mem o)
    exact Int.le_trans a (Int.le_trans q t)
  · omega
end
end DL
namespace DL
open PySem PySem.Spec PyProof.Rows L2 LamX PySem.W SL
theorem nat_sub_len : ∀ (l r : List Nat), l.Nodup → (∀ x ∈ l, x ∈ r) → l.length ≤ r.length
  | [], r, _, _ => Nat.zero_le _
  | x :: l, r, nd, h => by
    have nd' := List.nodup_cons.mp nd
    have xr := h x List.mem_cons_self
    have z := nat_sub_len l (r.erase x) nd'.2 fun y hy => (List.mem_erase_of_ne (show y ≠ x from fun e => nd'.1 (by rw [← e]; exact hy))).mpr (h y (List.mem_cons_of_mem _ hy))
    rw [List.length_erase_of_mem xr] at z
    have := List.length_pos_of_mem xr
    rw [List.length_cons]
    omega
section
variable {m n : Nat} {hs : List Nat} {c : List Int} {ps : List (Nat × Nat)}
theorem Way.swap (W : Way m n c ps) {a b : Nat} (ha : a < ps.length) (hb : b < ps.length) : Way m n c ((ps.set a (ps[a].1, ps[b].2)).set b (ps[b].1, ps[a].2)) := by
  have k : ((ps.set a (ps[a].1, ps[b].2)).set b (ps[b].1, ps[a].2)).map Prod.fst = ps.map Prod.fst := by
    rw [List.map_set, List.map_set]
    have e : ∀ (i : Nat) (hi : i < ps.length), (ps.map Prod.fst).set i ps[i].1 = ps.map Prod.fst := fun i hi => by
      have z := List.set_getElem_self (as := ps.map Prod.fst) (i := i) (by simpa using hi)
      rw [List.getElem_map] at z
      exact z
    show ((ps.map Prod.fst).set a ps[a].1).set b ps[b].1 = _
    rw [e a ha, e b hb]
  have s : (((ps.set a (ps[a].1, ps[b].2)).set b (ps[b].1, ps[a].2)).map Prod.snd).Perm (ps.map Prod.snd) := by
    rw [List.map_set, List.map_set]
    have z := List.set_set_perm (as := ps.map Prod.snd) (i := a) (j := b) (by simpa using ha) (by simpa using hb)
    rw [List.getElem_map, List.getElem_map] at z
    exact z
  exact ⟨by rw [k]; exact W.ks, s.nodup_iff.mpr W.ss, fun t => by rw [s.mem_iff]; exact W.tk t⟩
theorem Way.all (W : Way m n c ps) {w : List Nat} (wl : w.length = m) (nd : w.Nodup) (tk : ∀ s ∈ w, s < n ∧ isTk c s = true) : Way m n c ((List.range m).zip w) := by
  have pl : ps.length = m := by have := W.ks.length_eq; simpa using this
  have f : ((List.range m).zip w).map Prod.fst = List.range m := List.map_fst_zip (by simp [wl])
  have s : ((List.range m).zip w).map Prod.snd = w := List.map_snd_zip (by simp [wl])
  refine ⟨by rw [f], by rw [s]; exact nd, fun t => ?_⟩
  rw [s]
  refine ⟨tk t, fun h => ?_⟩
  have ht := (W.tk t).mpr h
  refine Classical.byContradiction fun no => ?_
  have nd2 : (t :: w).Nodup := List.nodup_cons.mpr ⟨no, nd⟩
  have sub : (t :: w) ⊆ ps.map Prod.snd := fun x hx => by
    rcases List.mem_cons.mp hx with rfl | hx
    · exact ht
    · exact (W.tk x).mpr (tk x hx)
  have := nat_sub_len _ _ nd2 fun x hx => sub hx
  rw [List.length_cons, List.length_map, wl, pl] at this
  omega
def pairsL (n : Nat) (sl : List Int) : List (Nat × Nat) := ((List.range n).filter fun s => decide (0 ≤ sl.getD s (-1))).map fun s => ((sl.getD s (-1)).toNat, s)
theorem pairs_way {P : List (List Int)} {R : List (List (List Int))} {sl : List Int} (L : Lay m n sl) (I : LineOk n hs c sl) (all : ∀ k, (∃ s, At sl s k) ↔ k < m) : Way m n c (pairsL n sl) := by
  have snd : (pairsL n sl).map Prod.snd = (List.range n).filter fun s => decide (0 ≤ sl.getD s (-1)) := by
    unfold pairsL
    rw [List.map_map]
    exact List.map_id _
  have fst : (pairsL n sl).map Prod.fst = ((List.range n).filter fun s => decide (0 ≤ sl.getD s (-1))).map fun s => (sl.getD s (-1)).toNat := by
    unfold pairsL
    rw [List.map_map]
    rfl
  have at_ : ∀ s, s < n → 0 ≤ sl.getD s (-1) → At sl s (sl.getD s (-1)).toNat := fun s hs' o => by
    obtain ⟨k, hk⟩ := (occ_iff L hs').mp o
    have e := hk.getD
    have : (sl.getD s (-1)).toNat = k := by rw [e]; omega
    rw [this]
    exact hk
  refine ⟨?_, ?_, fun s => ?_⟩
  · rw [fst]
    refine (List.perm_ext_iff_of_nodup ?_ List.nodup_range).mpr fun k => ?_
    · refine List.pairwise_map.mpr ?_
      have z := (List.nodup_range (n := n)).filter fun s => decide (0 ≤ sl.getD s (-1))
      refine List.Pairwise.imp_of_mem (fun {a b} ma mb ne e => ?_) z
      obtain ⟨ra, oa⟩ := List.mem_filter.mp ma
      obtain ⟨rb, ob⟩ := List.mem_filter.mp mb
      have h1 := at_ a (List.mem_range.mp ra) (of_decide_eq_true oa)
      have h2 := at_ b (List.mem_range.mp rb) (of_decide_eq_true ob)
      rw [e] at h1
      exact ne (L.inj _ _ _ h1 h2)
    · rw [List.mem_range, ← all k, List.mem_map]
      constructor
      · rintro ⟨s, hs', rfl⟩
        obtain ⟨r, o⟩ := List.mem_filter.mp hs'
        exact ⟨s, at_ s (List.mem_range.mp r) (of_decide_eq_true o)⟩
      · rintro ⟨s, hk⟩
        have ls : s < n := by have := hk.lt; rw [L.len] at this; exact this
        refine ⟨s, List.mem_filter.mpr ⟨List.mem_range.mpr ls, decide_eq_true ((occ_iff L ls).mpr ⟨k, hk⟩)⟩, ?_⟩
        rw [hk.getD]
        omega
  · rw [snd]
    exact (List.nodup_range).filter _
  · rw [snd, List.mem_filter, List.mem_range, decide_eq_true_eq]
    constructor
    · rintro ⟨a, b⟩
      exact ⟨a, (I.occ s a).mp ((occ_iff L a).mp b)⟩
    · rintro ⟨a, b⟩
      exact ⟨a, (occ_iff L a).mpr ((I.occ s a).mpr b)⟩
end
end DL
namespace DL
open PySem PySem.Spec PyProof.Rows L2 LamX PySem.W SL
end DL
namespace DL
open PySem PySem.Spec PyProof.Rows L2 LamX PySem.W SL
end DL
namespace DL
open PySem PySem.Spec PyProof.Rows L2 LamX PySem.W SL
end DL
namespace DL
open PySem PySem.Spec PyProof.Rows L2 LamX PySem.W SL
end DL
namespace DL
open PySem PySem.Spec PyProof.Rows L2 LamX PySem.W SL
section
variable {m n : Nat} {P : List (List Int)} {R : List (List (List Int))}
theorem oth_lay (S : Setg m n P R) {so : List Nat} (H : Hist m n so) (a x : Nat) : x ∈ oth (layF P R so) a ↔ x ∈ so ∧ x ≠ a := by
  rw [oth_mem (layF_good S H).1.lay, (layF_good S H).2]
theorem back (S : Setg m n P R) (T : Trn m n R) {so : List Nat} (H : Hist m n so) {a : Nat} (ha : a ∈ so) : Hist m n (oth (layF P R so) a ++ [a]) ∧ layF P R (oth (layF P R so) a ++ [a]) = layF P R so := by
  have L := (layF_good S H).1.lay
  have Ho := oth_hist L (a := a)
  have mem : ∀ x, x ∈ oth (layF P R so) a ++ [a] ↔ x ∈ so := fun x => by
    rw [List.mem_append, List.mem_singleton, oth_lay S H]
    constructor
    · rintro (z | rfl)
      · exact z.1
      · exact ha
    · intro z
      by_cases e : x = a
      · exact .inr e
      · exact .inl ⟨z, e⟩
  have nd : (oth (layF P R so) a ++ [a]).Nodup := by
    rw [List.nodup_append]
    refine ⟨Ho.nd, by simp, fun x hx y hy => ?_⟩
    rw [List.mem_singleton.mp hy]
    exact ((oth_lay S H a x).mp hx).2
  have pm : (oth (layF P R so) a ++ [a]).Perm so := (List.perm_ext_iff_of_nodup nd H.nd).mpr mem
  have H2 := H.ofPerm pm
  exact ⟨H2, layF_any S T H2 H mem⟩
end
end DL
namespace DL
open PySem PySem.Spec PyProof.Rows L2 LamX PySem.W SL
section
variable {m n : Nat} {P : List (List Int)} {R : List (List (List Int))}
end
end DL
namespace DL
open PySem PySem.Spec PyProof.Rows L2 LamX PySem.W SL
theorem ord_take {m n k : Nat} {ns : List Int} (o : Ord m ns) (hk : k ≤ n) : ∃ so : List Nat, ns.take k = hI so ∧ Hist m n so := by
  have e : ns.take k = hI ((ns.take k).map Int.toNat) := by
    unfold hI
    rw [List.map_map]
    refine (List.map_id _).symm.trans (List.map_congr_left fun y hy => ?_)
    have := (o.mem (x := y)).mp (List.mem_of_mem_take hy)
    show y = ((y.toNat : Nat) : Int)
    omega
  refine ⟨_, e, ?_, fun x hx => ?_, ?_⟩
  · have nd : (ns.take k).Nodup := o.nd.sublist (List.take_sublist k ns)
    rw [e] at nd
    unfold hI at nd
    exact (List.pairwise_map.mp nd).imp fun h e => h (by rw [e])
  · obtain ⟨y, hy, rfl⟩ := List.mem_map.mp hx
    have := (o.mem (x := y)).mp (List.mem_of_mem_take hy)
    omega
  · rw [List.length_map, List.length_take]
    omega
section
variable {m n : Nat} {P : List (List Int)} {R : List (List (List Int))}
theorem sem_law83 (ds : List D) (st : DSt) (Q : DK) (h : g_law ds st Q) : F_law_v7 g_pot g_right { nx := fun _ st' => Rt st Q .non st', rt := Rt st Q } (startD 2 ds) st := by
  obtain ⟨ns, x, rfl, hx, few, q⟩ := h
  have st2 : startD 2 [x] = [some x, none] := rfl
  have big : (1000 : Nat) ≤ sizeLine := by decide
  simp only [F_law_v7, st2, e_var, e_C, e_op, e_neg, e_isN, e_notN, e_and, e_or, e_not, e_test, e_tAnd, e_tOr, e_tNot, e_tYes, e_if, e_aNil, e_aCons, e_tup, e_lst, e_lstN, e_len0, e_len1, e_len2, e_len3, e_len4, e_len5, e_cb, e_on1, e_on2, e_onI, e_onB, e_onO, e_onO0, e_onOO, e_I0, e_I, e_add, e_addT, e_addS, e_addL, e_addLR, e_addRL, e_addRR, e_mul, e_mulL, e_mulT, e_rev, e_revT, e_ix, e_eqI, e_eqS, e_eqB, e_neI, e_neS, e_neB, e_ltI, e_chain, e_len, e_abs, e_2I, e_tuple1, e_tuple2, e_tuple3, e_listT, e_listN, e_allR, e_seqT, e_seqK, e_seqL, e_isi, e_isB, e_notB, e_truth, e_next, e_seq, e_drop, e_ret, e_retN, e_ifS, e_set, e_asg, e_par, e_nm, e_gsN, e_gsC, e_gTpK, e_gTpL, e_sum, e_maxL, e_minL, e_maxDef, e_int, e_intB, e_aug, e_on3, e_par3, e_newK, e_getK, e_keyI, e_keyS, e_inK, e_ninK, e_putK, e_lenK, e_lstS, e_seqX, e_gTpT, e_oN, e_oS, e_sl, e_slT, e_slL, e_finT, e_finN, e_index, e_idxT, e_idxL, e_mIx, e_ixST, e_ixSL, e_mtL, e_w, e_w1, e_w2, e_wE, e_wZ, e_itK, e_itT, e_itL, e_itT2, e_itL2, e_lc, e_for, e_wipe0, e_wipe, e_okI, e_okR, e_gSb, List.getElem?_cons_zero, List.getElem?_cons_succ, List.set_cons_zero, List.set_cons_succ, hx.seq, List.length_map]
  generalize hj : (if (if (ns.length : Int) < 2 then (ns.length : Int) else 2) > 1 then (if (ns.length : Int) < 2 then (ns.length : Int) else 2) else 1) = j
  have j3 : 1 ≤ j ∧ j ≤ 2 := by
    rw [← hj]
    split <;> (try split) <;> omega
  refine ⟨⟨by omega, by omega⟩, by rw [rgD_length]; omega, ?_⟩
  refine compL_true _ [] st (fun d hd st1 Q' q' => ?_) fun st' => ?_
  · obtain ⟨k, lk, rfl⟩ := rgD_mem hd
    simp only [e_var, e_C, e_op, e_neg, e_isN, e_notN, e_and, e_or, e_not, e_test, e_tAnd, e_tOr, e_tNot, e_tYes, e_if, e_aNil, e_aCons, e_tup, e_lst, e_lstN, e_len0, e_len1, e_len2, e_len3, e_len4, e_len5, e_cb, e_on1, e_on2, e_onI, e_onB, e_onO, e_onO0, e_onOO, e_I0, e_I, e_add, e_addT, e_addS, e_addL, e_addLR, e_addRL, e_addRR, e_mul, e_mulL, e_mulT, e_rev, e_revT, e_ix, e_eqI, e_eqS, e_eqB, e_neI, e_neS, e_neB, e_ltI, e_chain, e_len, e_abs, e_2I, e_tuple1, e_tuple2, e_tuple3, e_listT, e_listN, e_allR, e_seqT, e_seqK, e_seqL, e_isi, e_isB, e_notB, e_truth, e_next, e_seq, e_drop, e_ret, e_retN, e_ifS, e_set, e_asg, e_par, e_nm, e_gsN, e_gsC, e_gTpK, e_gTpL, e_sum, e_maxL, e_minL, e_maxDef, e_int, e_intB, e_aug, e_on3, e_par3, e_newK, e_getK, e_keyI, e_keyS, e_inK, e_ninK, e_putK, e_lenK, e_lstS, e_seqX, e_gTpT, e_oN, e_oS, e_sl, e_slT, e_slL, e_finT, e_finN, e_index, e_idxT, e_idxL, e_mIx, e_ixST, e_ixSL, e_mtL, e_w, e_w1, e_w2, e_wE, e_wZ, e_itK, e_itT, e_itL, e_itT2, e_itL2, e_lc, e_for, e_wipe0, e_wipe, e_okI, e_okR, e_gSb, List.getElem?_cons_zero, List.getElem?_cons_succ, List.set_cons_zero, List.set_cons_succ]
    refine ⟨ns, x, k, by rw [Int.zero_add], hx, by omega, fun o po => ⟨st1.length, rfl, ⟨o, by simp, po.less (by decide)⟩, fun o2 _ => q' _⟩⟩
  · rw [List.nil_append]
    exact all_end0 (fun d hd => List.eq_of_mem_replicate hd) (.inl (q _))
end
end DL
namespace DL
open PySem PySem.Spec PyProof.Rows L2 LamX PySem.W SL
end DL
namespace DL
open PySem PySem.Spec PyProof.Rows L2 LamX PySem.W SL
theorem rt_set {st : DSt} {p k : Nat} {o : O} {d : D} {Q : DK} (c : clo st.length d = true) (po : PotO k o) (q : Q d (st.set p o)) : Rt st Q d (st.set p o) := by
  have z := rt_drop (junk := []) List.length_set c (cs_set (m := st.length) po) q
  rw [List.append_nil] at z
  exact z
end DL
namespace DL
open PySem PySem.Spec PyProof.Rows L2 LamX PySem.W SL
def g_lineS : DRs := fun ds st Q => ∃ (p k m n : Nat), ds = [.ref p, .int (m : Nat), .int (n : Nat)] ∧ Pot (k + 100) p st ∧ 1 ≤ n ∧ n ≤ 16 ∧ m ≤ 16 ∧ ∀ (hs : List Nat) (o : O), hs.length = m → (∀ h ∈ hs, h < n) → PotO k o → Q (.tup [.lst (hL hs), rowsD (lineP n hs)]) (st.set p o)
theorem ar_lineS (ds : List D) (st : DSt) (Q : DK) (h : g_lineS ds st Q) : ds.length = 3 := by
  obtain ⟨_, _, _, _, rfl, _⟩ := h
  rfl
theorem clos_hL (n : Nat) : ∀ hs : List Nat, clos n (hL hs) = true
  | [] => rfl
  | h :: hs => by
    show (clo n (.int (h : Nat)) && clos n (hL hs)) = true
    rw [clos_hL n hs]
    rfl
theorem sem_lineS (ds : List D) (st : DSt) (Q : DK) (h : g_lineS ds st Q) : F__law_line_setting g_take g_pick g_line { nx := fun _ st' => Rt st Q .non st', rt := Rt st Q } (startD 6 ds) st := by
  obtain ⟨p, k, m, n, rfl, pot, n1, n16, m16, q⟩ := h
  have lt := pot.lt
  obtain ⟨o0, e0, po0⟩ := pot
  have st6 : startD 6 [D.ref p, D.int (m : Nat), D.int (n : Nat)] = [some (.ref p), some (.int (m : Nat)), some (.int (n : Nat)), none, none, none] := rfl
  have big : (1000 : Nat) ≤ sizeLine := by decide
  simp only [F__law_line_setting, st6]
  try dsimp only
  rw [e_seq]
  try simp only [e_var, e_C, e_op, e_neg, e_isN, e_notN, e_and, e_or, e_not, e_test, e_tAnd, e_tOr, e_tNot, e_tYes, e_if, e_aNil, e_aCons, e_tup, e_lst, e_lstN, e_len0, e_len1, e_len2, e_len3, e_len4, e_len5, e_cb, e_on1, e_on2, e_onI, e_onB, e_onO, e_onO0, e_onOO, e_I0, e_I, e_add, e_addT, e_addS, e_addL, e_addLR, e_addRL, e_addRR, e_mul, e_mulL, e_mulT, e_rev, e_revT, e_ix, e_eqI, e_eqS, e_eqB, e_neI, e_neS, e_neB, e_ltI, e_chain, e_len, e_abs, e_2I, e_tuple1, e_tuple2, e_tuple3, e_listT, e_listN, e_allR, e_seqT, e_seqK, e_seqL, e_isi, e_isB, e_notB, e_truth, e_next, e_drop, e_ret, e_retN, e_ifS, e_set, e_asg, e_par, e_nm, e_gsN, e_gsC, e_gTpK, e_gTpL, e_sum, e_maxL, e_minL, e_maxDef, e_int, e_intB, e_aug, e_on3, e_par3, e_newK, e_getK, e_keyI, e_keyS, e_inK, e_ninK, e_putK, e_lenK, e_lstS, e_seqX, e_gTpT, e_oN, e_oS, e_sl, e_slT, e_slL, e_finT, e_finN, e_index, e_idxT, e_idxL, e_mIx, e_ixST, e_ixSL, e_mtL, e_w, e_w1, e_w2, e_wE, e_wZ, e_itK, e_itT, e_itL, e_itT2, e_itL2, e_lc, e_for, e_wipe0, e_wipe, e_okI, e_okR, e_gSb, List.getElem?_cons_zero, List.getElem?_cons_succ, List.set_cons_zero, List.set_cons_succ, Int.toNat_natCast]
  refine ⟨⟨by omega, by omega⟩, by rw [rgD_length]; omega, ?_⟩
  refine compL_inv m (fun c acc st' => ∃ (hs : List Nat) (o : O), acc = hL hs ∧ hs.length = c ∧ (∀ h ∈ hs, h < n) ∧ st' = st.set p o ∧ PotO (k + (m - c) * 3) o) (fun c d acc st' Nx lc w hNx => ?_) ?_ _ [] 0 _ (by rw [rgD_length, Nat.zero_add]) ⟨[], o0, rfl, rfl, fun h hh => (by cases hh), (set_same e0).symm, po0.less (by omega)⟩
  · obtain ⟨hs, o, rfl, lh, hlt, rfl, po⟩ := w
    rw [show m - c = (m - (c + 1)) + 1 by omega, Nat.succ_mul] at po
    try simp only [e_var, e_C, e_op, e_neg, e_isN, e_notN, e_and, e_or, e_not, e_test, e_tAnd, e_tOr, e_tNot, e_tYes, e_if, e_aNil, e_aCons, e_tup, e_lst, e_lstN, e_len0, e_len1, e_len2, e_len3, e_len4, e_len5, e_cb, e_on1, e_on2, e_onI, e_onB, e_onO, e_onO0, e_onOO, e_I0, e_I, e_add, e_addT, e_addS, e_addL, e_addLR, e_addRL, e_addRR, e_mul, e_mulL, e_mulT, e_rev, e_revT, e_ix, e_eqI, e_eqS, e_eqB, e_neI, e_neS, e_neB, e_ltI, e_chain, e_len, e_abs, e_2I, e_tuple1, e_tuple2, e_tuple3, e_listT, e_listN, e_allR, e_seqT, e_seqK, e_seqL, e_isi, e_isB, e_notB, e_truth, e_next, e_drop, e_ret, e_retN, e_ifS, e_set, e_asg, e_par, e_nm, e_gsN, e_gsC, e_gTpK, e_gTpL, e_sum, e_maxL, e_minL, e_maxDef, e_int, e_intB, e_aug, e_on3, e_par3, e_newK, e_getK, e_keyI, e_keyS, e_inK, e_ninK, e_putK, e_lenK, e_lstS, e_seqX, e_gTpT, e_oN, e_oS, e_sl, e_slT, e_slL, e_finT, e_finN, e_index, e_idxT, e_idxL, e_mIx, e_ixST, e_ixSL, e_mtL, e_w, e_w1, e_w2, e_wE, e_wZ, e_itK, e_itT, e_itL, e_itT2, e_itL2, e_lc, e_for, e_wipe0, e_wipe, e_okI, e_okR, e_gSb, List.getElem?_cons_zero, List.getElem?_cons_succ, List.set_cons_zero, List.set_cons_succ]
    refine take_ev (n := k + (m - (c + 1)) * 3 + 2) (Pot.set lt (po.less (by omega))) (by omega) (by omega) fun a o2 la po2 => ?_
    rw [List.set_set]
    try simp only [e_var, e_C, e_op, e_neg, e_isN, e_notN, e_and, e_or, e_not, e_test, e_tAnd, e_tOr, e_tNot, e_tYes, e_if, e_aNil, e_aCons, e_tup, e_lst, e_lstN, e_len0, e_len1, e_len2, e_len3, e_len4, e_len5, e_cb, e_on1, e_on2, e_onI, e_onB, e_onO, e_onO0, e_onOO, e_I0, e_I, e_add, e_addT, e_addS, e_addL, e_addLR, e_addRL, e_addRR, e_mul, e_mulL, e_mulT, e_rev, e_revT, e_ix, e_eqI, e_eqS, e_eqB, e_neI, e_neS, e_neB, e_ltI, e_chain, e_len, e_abs, e_2I, e_tuple1, e_tuple2, e_tuple3, e_listT, e_listN, e_allR, e_seqT, e_seqK, e_seqL, e_isi, e_isB, e_notB, e_truth, e_next, e_drop, e_ret, e_retN, e_ifS, e_set, e_asg, e_par, e_nm, e_gsN, e_gsC, e_gTpK, e_gTpL, e_sum, e_maxL, e_minL, e_maxDef, e_int, e_intB, e_aug, e_on3, e_par3, e_newK, e_getK, e_keyI, e_keyS, e_inK, e_ninK, e_putK, e_lenK, e_lstS, e_seqX, e_gTpT, e_oN, e_oS, e_sl, e_slT, e_slL, e_finT, e_finN, e_index, e_idxT, e_idxL, e_mIx, e_ixST, e_ixSL, e_mtL, e_w, e_w1, e_w2, e_wE, e_wZ, e_itK, e_itT, e_itL, e_itT2, e_itL2, e_lc, e_for, e_wipe0, e_wipe, e_okI, e_okR, e_gSb, List.getElem?_cons_zero, List.getElem?_cons_succ, List.set_cons_zero, List.set_cons_succ]
    refine ⟨⟨by decide, by decide⟩, ?_⟩
    refine take_ev (n := k + (m - (c + 1)) * 3 + 1) (Pot.set lt (po2.less (by omega))) (by omega) (by omega) fun b o3 lb po3 => ?_
    rw [List.set_set]
    try simp only [e_var, e_C, e_op, e_neg, e_isN, e_notN, e_and, e_or, e_not, e_test, e_tAnd, e_tOr, e_tNot, e_tYes, e_if, e_aNil, e_aCons, e_tup, e_lst, e_lstN, e_len0, e_len1, e_len2, e_len3, e_len4, e_len5, e_cb, e_on1, e_on2, e_onI, e_onB, e_onO, e_onO0, e_onOO, e_I0, e_I, e_add, e_addT, e_addS, e_addL, e_addLR, e_addRL, e_addRR, e_mul, e_mulL, e_mulT, e_rev, e_revT, e_ix, e_eqI, e_eqS, e_eqB, e_neI, e_neS, e_neB, e_ltI, e_chain, e_len, e_abs, e_2I, e_tuple1, e_tuple2, e_tuple3, e_listT, e_listN, e_allR, e_seqT, e_seqK, e_seqL, e_isi, e_isB, e_notB, e_truth, e_next, e_drop, e_ret, e_retN, e_ifS, e_set, e_asg, e_par, e_nm, e_gsN, e_gsC, e_gTpK, e_gTpL, e_sum, e_maxL, e_minL, e_maxDef, e_int, e_intB, e_aug, e_on3, e_par3, e_newK, e_getK, e_keyI, e_keyS, e_inK, e_ninK, e_putK, e_lenK, e_lstS, e_seqX, e_gTpT, e_oN, e_oS, e_sl, e_slT, e_slL, e_finT, e_finN, e_index, e_idxT, e_idxL, e_mIx, e_ixST, e_ixSL, e_mtL, e_w, e_w1, e_w2, e_wE, e_wZ, e_itK, e_itT, e_itL, e_itT2, e_itL2, e_lc, e_for, e_wipe0, e_wipe, e_okI, e_okR, e_gSb, List.getElem?_cons_zero, List.getElem?_cons_succ, List.set_cons_zero, List.set_cons_succ]
    refine pick_ev (n := k + (m - (c + 1)) * 3) (Pot.set lt (po3.less (by omega))) (by simp) (by simp) fun d o4 hd po4 => ?_
    rw [List.set_set]
    obtain ⟨x, rfl, xn⟩ : ∃ x : Nat, d = .int (x : Nat) ∧ x < n := by
      simp only [List.mem_cons, List.not_mem_nil, or_false] at hd
      rcases hd with rfl | rfl
      · exact ⟨a, rfl, by omega⟩
      · exact ⟨b, rfl, by omega⟩
    refine hNx _ _ ⟨hs ++ [x], o4, ?_, by rw [List.length_append, lh]; rfl, fun h hh => ?_, rfl, po4⟩
    · unfold hL
      rw [List.map_append]
      rfl
    · rcases List.mem_append.mp hh with z | z
      · exact hlt h z
      · rw [List.mem_singleton.mp z]; exact xn
  rintro acc st' ⟨hs, o, rfl, lh, hlt, rfl, po⟩
  refine fin_lst ?_
  try simp only [e_var, e_C, e_op, e_neg, e_isN, e_notN, e_and, e_or, e_not, e_test, e_tAnd, e_tOr, e_tNot, e_tYes, e_if, e_aNil, e_aCons, e_tup, e_lst, e_lstN, e_len0, e_len1, e_len2, e_len3, e_len4, e_len5, e_cb, e_on1, e_on2, e_onI, e_onB, e_onO, e_onO0, e_onOO, e_I0, e_I, e_add, e_addT, e_addS, e_addL, e_addLR, e_addRL, e_addRR, e_mul, e_mulL, e_mulT, e_rev, e_revT, e_ix, e_eqI, e_eqS, e_eqB, e_neI, e_neS, e_neB, e_ltI, e_chain, e_len, e_abs, e_2I, e_tuple1, e_tuple2, e_tuple3, e_listT, e_listN, e_allR, e_seqT, e_seqK, e_seqL, e_isi, e_isB, e_notB, e_truth, e_next, e_drop, e_ret, e_retN, e_ifS, e_set, e_asg, e_par, e_nm, e_gsN, e_gsC, e_gTpK, e_gTpL, e_sum, e_maxL, e_minL, e_maxDef, e_int, e_intB, e_aug, e_on3, e_par3, e_newK, e_getK, e_keyI, e_keyS, e_inK, e_ninK, e_putK, e_lenK, e_lstS, e_seqX, e_gTpT, e_oN, e_oS, e_sl, e_slT, e_slL, e_finT, e_finN, e_index, e_idxT, e_idxL, e_mIx, e_ixST, e_ixSL, e_mtL, e_w, e_w1, e_w2, e_wE, e_wZ, e_itK, e_itT, e_itL, e_itT2, e_itL2, e_lc, e_for, e_wipe0, e_wipe, e_okI, e_okR, e_gSb, List.getElem?_cons_zero, List.getElem?_cons_succ, List.set_cons_zero, List.set_cons_succ]
  refine ⟨by unfold hL; rw [List.length_map]; omega, ?_⟩
  refine compL_gen (fun h : Nat => D.int (h : Nat)) (fun h : Nat => rowD (lineI n (h : Int))) hs [] (fun h hh Q' k => k _ fun Q2 q2 => ?_) ?_
  · try simp only [e_var, e_C, e_op, e_neg, e_isN, e_notN, e_and, e_or, e_not, e_test, e_tAnd, e_tOr, e_tNot, e_tYes, e_if, e_aNil, e_aCons, e_tup, e_lst, e_lstN, e_len0, e_len1, e_len2, e_len3, e_len4, e_len5, e_cb, e_on1, e_on2, e_onI, e_onB, e_onO, e_onO0, e_onOO, e_I0, e_I, e_add, e_addT, e_addS, e_addL, e_addLR, e_addRL, e_addRR, e_mul, e_mulL, e_mulT, e_rev, e_revT, e_ix, e_eqI, e_eqS, e_eqB, e_neI, e_neS, e_neB, e_ltI, e_chain, e_len, e_abs, e_2I, e_tuple1, e_tuple2, e_tuple3, e_listT, e_listN, e_allR, e_seqT, e_seqK, e_seqL, e_isi, e_isB, e_notB, e_truth, e_next, e_drop, e_ret, e_retN, e_ifS, e_set, e_asg, e_par, e_nm, e_gsN, e_gsC, e_gTpK, e_gTpL, e_sum, e_maxL, e_minL, e_maxDef, e_int, e_intB, e_aug, e_on3, e_par3, e_newK, e_getK, e_keyI, e_keyS, e_inK, e_ninK, e_putK, e_lenK, e_lstS, e_seqX, e_gTpT, e_oN, e_oS, e_sl, e_slT, e_slL, e_finT, e_finN, e_index, e_idxT, e_idxL, e_mIx, e_ixST, e_ixSL, e_mtL, e_w, e_w1, e_w2, e_wE, e_wZ, e_itK, e_itT, e_itL, e_itT2, e_itL2, e_lc, e_for, e_wipe0, e_wipe, e_okI, e_okR, e_gSb, List.getElem?_cons_zero, List.getElem?_cons_succ, List.set_cons_zero, List.set_cons_succ]
    exact ⟨n, h, rfl, by omega, by omega, q2⟩
  refine tuple_end ?_
  rw [List.nil_append]
  have e : hs.map (fun h : Nat => rowD (lineI n (h : Int))) = (lineP n hs).map rowD := by unfold lineP; rw [List.map_map]; rfl
  rw [e]
  try simp only [e_var, e_C, e_op, e_neg, e_isN, e_notN, e_and, e_or, e_not, e_test, e_tAnd, e_tOr, e_tNot, e_tYes, e_if, e_aNil, e_aCons, e_tup, e_lst, e_lstN, e_len0, e_len1, e_len2, e_len3, e_len4, e_len5, e_cb, e_on1, e_on2, e_onI, e_onB, e_onO, e_onO0, e_onOO, e_I0, e_I, e_add, e_addT, e_addS, e_addL, e_addLR, e_addRL, e_addRR, e_mul, e_mulL, e_mulT, e_rev, e_revT, e_ix, e_eqI, e_eqS, e_eqB, e_neI, e_neS, e_neB, e_ltI, e_chain, e_len, e_abs, e_2I, e_tuple1, e_tuple2, e_tuple3, e_listT, e_listN, e_allR, e_seqT, e_seqK, e_seqL, e_isi, e_isB, e_notB, e_truth, e_next, e_drop, e_ret, e_retN, e_ifS, e_set, e_asg, e_par, e_nm, e_gsN, e_gsC, e_gTpK, e_gTpL, e_sum, e_maxL, e_minL, e_maxDef, e_int, e_intB, e_aug, e_on3, e_par3, e_newK, e_getK, e_keyI, e_keyS, e_inK, e_ninK, e_putK, e_lenK, e_lstS, e_seqX, e_gTpT, e_oN, e_oS, e_sl, e_slT, e_slL, e_finT, e_finN, e_index, e_idxT, e_idxL, e_mIx, e_ixST, e_ixSL, e_mtL, e_w, e_w1, e_w2, e_wE, e_wZ, e_itK, e_itT, e_itL, e_itT2, e_itL2, e_lc, e_for, e_wipe0, e_wipe, e_okI, e_okR, e_gSb, List.getElem?_cons_zero, List.getElem?_cons_succ, List.set_cons_zero, List.set_cons_succ]
  refine rt_set ?_ po (q hs o lh hlt (po.less (by omega)))
  simp [DL.clo, clos, clos_hL, clos_rows]
theorem lineP_ord {n : Nat} {hs : List Nat} (n0 : 0 < n) : ∀ x ∈ lineP n hs, Ord n x := fun x hx => by
  obtain ⟨h, _, rfl⟩ := List.mem_map.mp hx
  exact line_ord n0
theorem sem_law69 (ds : List D) (st : DSt) (Q : DK) (h : g_law ds st Q) : F_law_v9 g_pot g_right { nx := fun _ st' => Rt st Q .non st', rt := Rt st Q } (startD 2 ds) st := by
  have z := sem_law83 ds st Q h
  unfold F_law_v7 at z
  unfold F_law_v9
  exact z
end DL
namespace DL
open PySem PySem.Spec PyProof.Rows L2 LamX PySem.W SL
theorem farR_no (n : Nat) (P : List (List Int)) : ∀ t ∈ farR n P, noRing t = true := fun t ht => by
  obtain ⟨s, _, rfl⟩ := List.mem_map.mp ht
  exact Ord.noRing (farO_ord P s)
theorem far_lin {m n : Nat} {hs : List Nat} (hl : hs.length = m) (lt : ∀ h ∈ hs, h < n) (n0 : 0 < n) : Lin m n hs (lineP n hs) (farR n (lineP n hs)) := by
  have pl : (lineP n hs).length = m := by unfold lineP; rw [List.length_map, hl]
  refine ⟨⟨pl, lineP_ord n0, by unfold farR; simp, fun t ht => ?_⟩, hl, lt, rfl, n0⟩
  obtain ⟨s, _, rfl⟩ := List.mem_map.mp ht
  have o := farO_ord (lineP n hs) s
  rw [pl] at o
  exact o.tb
theorem far_best {m n : Nat} {hs : List Nat} (hl : hs.length = m) (lt : ∀ h ∈ hs, h < n) (n0 : 0 < n) (n9 : n ≤ 900) {h : List Nat} (H : Hist m n h) : maxI (farI n hs (layF (lineP n hs) (farR n (lineP n hs)) h)) = maxI (waitsI (cntL n hs h)) ∧ ML.sumL ((farI n hs (layF (lineP n hs) (farR n (lineP n hs)) h)).map fun x => x * x) = sqSum (waitsI (cntL n hs h)) := by
  have S := far_lin hl lt n0
  have g := (layF_good S.s H).1
  have st := layF_stb S.s (S.s.trn (farR_no n _)) H
  have I := line_ok S n9 H
  have W := stb_row S g st fun s a b hs' ha _ e => farR_rk hs' (by rw [S.s.pl]; exact ha) e
  exact ⟨row_max_eq S g.lay I W, row_sq_eq S g.lay I W⟩
end DL
namespace DL
open PySem PySem.Spec PyProof.Rows L2 LamX PySem.W SL
theorem waits_sq_le {c : List Int} (hc : Cnt c) (l : c.length ≤ 64) : 0 ≤ sqSum (waitsI c) ∧ sqSum (waitsI c) ≤ 10 ^ 9 := by
  have wl := waits_lt hc
  have ln := waits_len hc
  have key : ∀ l : List Int, (∀ x ∈ l, 0 ≤ x ∧ x ≤ 128) → 0 ≤ sqSum l ∧ sqSum l ≤ (l.length : Int) * (128 * 128) := by
    intro l
    induction l with
    | nil => intro _; exact ⟨Int.le_refl 0, by simp [sqSum, ML.sumL]⟩
    | cons x r ih =>
      intro h
      obtain ⟨a, b⟩ := ih fun y hy => h y (List.mem_cons_of_mem _ hy)
      have hx := h x (by simp)
      have e : sqSum (x :: r) = x * x + sqSum r := rfl
      have u0 : 0 ≤ x * x := Int.mul_nonneg hx.1 hx.1
      have u1 : x * x ≤ 128 * 128 := Int.mul_le_mul hx.2 hx.2 hx.1 (by decide)
      rw [e, List.length_cons]
      have : ((r.length + 1 : Nat) : Int) * (128 * 128) = (r.length : Int) * (128 * 128) + 128 * 128 := by omega
      omega
  obtain ⟨a, b⟩ := key (waitsI c) fun x hx => by have := wl x hx; omega
  refine ⟨a, Int.le_trans b ?_⟩
  have : ((waitsI c).length : Int) ≤ 64 := by omega
  omega
theorem sq_comp {r : DEnv} {i : Nat} {st : DSt} {ys : List D} {K : List D → DSt → Prop} (hi : i < r.length) (l : List Int) (hl : ∀ x ∈ l, 0 ≤ x ∧ x ≤ 200) (qq : K ((l.map fun x => x * x).map D.int) st) : compL ⟨ys, none⟩ (gNm i) dtYes (dOp dMul (dVar i) (dVar i)) r K (l.map D.int) [] st := by
  refine compL_gen D.int (fun x => .int (x * x)) l [] (fun x hx Q' k => k _ fun Q2 q2 => ?_) ?_
  · have e : (r.set i (some (D.int x)))[i]? = some (some (.int x)) := List.getElem?_set_self hi
    try simp only [e_var, e_C, e_op, e_neg, e_isN, e_notN, e_and, e_or, e_not, e_test, e_tAnd, e_tOr, e_tNot, e_tYes, e_if, e_aNil, e_aCons, e_tup, e_lst, e_lstN, e_len0, e_len1, e_len2, e_len3, e_len4, e_len5, e_cb, e_on1, e_on2, e_onI, e_onB, e_onO, e_onO0, e_onOO, e_I0, e_I, e_add, e_addT, e_addS, e_addL, e_addLR, e_addRL, e_addRR, e_mul, e_mulL, e_mulT, e_rev, e_revT, e_ix, e_eqI, e_eqS, e_eqB, e_neI, e_neS, e_neB, e_ltI, e_chain, e_len, e_abs, e_2I, e_tuple1, e_tuple2, e_tuple3, e_listT, e_listN, e_allR, e_seqT, e_seqK, e_seqL, e_isi, e_isB, e_notB, e_truth, e_next, e_drop, e_ret, e_retN, e_ifS, e_set, e_asg, e_par, e_nm, e_gsN, e_gsC, e_gTpK, e_gTpL, e_sum, e_maxL, e_minL, e_maxDef, e_int, e_intB, e_aug, e_on3, e_par3, e_newK, e_getK, e_keyI, e_keyS, e_inK, e_ninK, e_putK, e_lenK, e_lstS, e_seqX, e_gTpT, e_oN, e_oS, e_sl, e_slT, e_slL, e_finT, e_finN, e_index, e_idxT, e_idxL, e_mIx, e_ixST, e_ixSL, e_mtL, e_w, e_w1, e_w2, e_wE, e_wZ, e_itK, e_itT, e_itL, e_itT2, e_itL2, e_lc, e_for, e_wipe0, e_wipe, e_okI, e_okR, e_gSb, List.getElem?_cons_zero, List.getElem?_cons_succ, List.set_cons_zero, List.set_cons_succ, e]
    have := hl x hx
    exact ⟨.inl ⟨by omega, by omega⟩, q2⟩
  rw [List.nil_append]
  have es : l.map (fun x => D.int (x * x)) = (l.map fun x => x * x).map D.int := by rw [List.map_map]; rfl
  rw [es]
  exact qq
end DL
namespace SL
open PySem PySem.Spec PyProof.Rows L2
section
variable {prog : Program} {w : World} {A : Around} {R : Result → Shared → Prop} {itr : Addr} {seen mv : List Addr} {n : Nat} {Pk : Nat → Value → Prop} {Stt : Nat → Heap → Prop}
end
section
variable {prog : Program} {w : World} {A : Around} {E : Value → Shared → Prop} {s : Shared}
end
end SL
namespace DL
open PySem PySem.Spec PyProof.Rows L2 LamX PySem.W SL
section
variable {X : Cx}
end
end DL
namespace SL
open PySem PySem.Spec PyProof.Rows L2
theorem enum_len0 : typeLookup (.type "enumerate") "__len__" = pure none := by rw [typeLookup_type, builtinLookup_eq_fast]; kernel_rfl
theorem enum_hint0 : typeLookup (.type "enumerate") "__length_hint__" = pure none := by rw [typeLookup_type, builtinLookup_eq_fast]; kernel_rfl
section
variable {prog : Program} {w : World} {A : Around} {E : Value → Shared → Prop} {s : Shared}
theorem enum_out_next {e it p : Addr} {fp : List Addr} {n i : Nat} {Pk : Nat → Value → Prop} {Stt : Nat → Heap → Prop} {old : Value} {f : Bool} {op : Obj} {Q : Value → Shared → Prop}
    (D : Draws prog w A it fp n Pk Stt) (he : PySem.IsEnumHeld s.heap e it i old p f) (hp : s.heap.get? p = some op) (pe : p ≠ e) (pi : p ≠ it) (st : Stt i s.heap) (lt : i < n) (ne : e ≠ it) (nf : e ∉ fp)
    (k : ∀ (x : Value) (g : Heap) (tk : Tok), Pk i x → PySem.IsEnumHeld g e it ((i : Int) + 1) old p true → Stt (i + 1) g → g.get? s.heap.objs.size = some { cls := .type "tuple", data := .seq #[.int i tk, x] } → g.objs.size = s.heap.objs.size + 1 →
      (∀ b o, b ≠ e → b ≠ it → s.heap.get? b = some o → g.get? b = some o) → Q (.ref s.heap.objs.size) { s with heap := g, toks := tk + 1 }) :
    wpAny (model prog w) A (Builtin.«enumerate.__next__» ⟨[.ref e], []⟩) (fun fin s' => ∃ v, fin = .done (.ret v) ∧ Q v s') E s := by
  obtain ⟨hp0, gs, dr, tk0, os⟩ := s
  refine (?_ : wpAny _ _ (field (.ref e) 2 >>= _) _ _ _)
  refine wpAny_bind (wpAny_field he rfl (x := .ref it) rfl ?_)
  refine wpAny_bind (D.item i _ _ _ lt st fun x a1 tk px st1 same1 => ?_)
  have same1 : Heap.SameBut it hp0 a1 := same1
  have e1 : PySem.IsEnumHeld a1 e it i old p f := (same1.2 e ne).trans he
  refine (?_ : wpAny _ _ (field (.ref e) 3 >>= _) _ _ ⟨a1, gs, dr, tk, os⟩)
  refine wpAny_bind (wpAny_field e1 rfl (x := rawInt i) rfl ?_)
  refine (?_ : wpAny _ _ (field (.ref e) 4 >>= _) _ _ ⟨a1, gs, dr, tk, os⟩)
  refine wpAny_bind (wpAny_field e1 rfl (x := .none) rfl ?_)
  refine (?_ : wpAny _ _ (mkInt i >>= _) _ _ ⟨a1, gs, dr, tk, os⟩)
  refine wpAny_bind (wpAny_mkInt ?_)
  refine (?_ : wpAny _ _ (setField (.ref e) 3 (rawInt ((i : Int) + 1)) >>= _) _ _ ⟨a1, gs, dr, tk + 1, os⟩)
  refine wpAny_bind (wpAny_setField_rec e1 (by simp) fun a2 e2 same2 => ?_)
  have same2 : Heap.SameBut e a1 a2 := same2
  have e2 : PySem.IsEnumHeld a2 e it ((i : Int) + 1) old p f := e2
  refine (?_ : wpAny _ _ (setField (.ref e) 4 .none >>= _) _ _ ⟨a2, gs, dr, tk + 1, os⟩)
  refine wpAny_bind (wpAny_setField_rec e2 (by simp) fun a3 e3 same3 => ?_)
  have same3 : Heap.SameBut e a2 a3 := same3
  have e3 : PySem.IsEnumHeld a3 e it ((i : Int) + 1) old p f := e3
  refine (?_ : wpAny _ _ (newTuple [.int i tk, x] >>= _) _ _ ⟨a3, gs, dr, tk + 1, os⟩)
  refine wpAny_bind (wpAny_newTuple ?_)
  have z3 : a3.objs.size = hp0.objs.size := by rw [same3.1, same2.1, same1.1]
  have k3 : ∀ b o, b ≠ e → b ≠ it → hp0.get? b = some o → a3.get? b = some o := fun b o be bi q => same3.extBut b o be (same2.extBut b o be (same1.extBut b o bi q))
  have st3 : Stt (i + 1) a3 := D.frame _ _ _ st1 fun b hb o q => by
    have be : b ≠ e := fun z => nf (z ▸ hb)
    exact same3.extBut b o be (same2.extBut b o be q)
  have ex : ∃ a4, a4 = a3.push { cls := .type "tuple", data := .seq #[.int i tk, x] } := ⟨_, rfl⟩
  obtain ⟨a4, ea4⟩ := ex
  rw [← ea4, z3]
  have k4 : ∀ b o, a3.get? b = some o → a4.get? b = some o := fun b o q => by rw [ea4]; exact Heap.get?_push_of_some _ q
  have new4 : a4.get? hp0.objs.size = some { cls := .type "tuple", data := .seq #[.int i tk, x] } := by rw [ea4, ← z3]; exact Heap.get?_push_size _ rfl
  have z4 : a4.objs.size = hp0.objs.size + 1 := by rw [ea4, Heap.size_push, z3]
  have lte : e < hp0.objs.size := Heap.lt_size he
  refine (?_ : wpAny _ _ (Builtin.SmallTypes.ownedTupleIsFree (.ref e) >>= _) _ _ ⟨a4, gs, dr, tk + 1, os⟩)
  refine wpAny_bind (PySem.wpAny_tupleHeld_enum (s := ⟨a4, gs, dr, tk + 1, os⟩) (k4 _ _ e3) (k4 _ _ (k3 p op pe pi hp)) fun a5 e5 same5 => ?_)
  have same5 : Heap.SameBut e a4 a5 := same5
  simp only [Bool.false_eq_true, if_false]
  refine wpAny_pure ⟨_, rfl, k x a5 tk px e5 (D.frame _ _ _ st3 fun b hb o q => same5.extBut b o (fun z => nf (z ▸ hb)) (k4 b o q)) (same5.extBut _ _ (Nat.ne_of_gt lte) new4) ?_ fun b o be bi q => same5.extBut b o be (k4 b o (k3 b o be bi q))⟩
  refine (?_ : a5.objs.size = hp0.objs.size + 1)
  rw [same5.1, z4]
theorem enum_out_item {e it p : Addr} {fp : List Addr} {n i : Nat} {Pk : Nat → Value → Prop} {Stt : Nat → Heap → Prop} {old : Value} {f : Bool} {op : Obj} {Q : Option Value → Shared → Prop}
    (D : Draws prog w A.in1 it fp n Pk Stt) (he : PySem.IsEnumHeld s.heap e it i old p f) (hp : s.heap.get? p = some op) (pe : p ≠ e) (pi : p ≠ it) (st : Stt i s.heap) (lt : i < n) (ne : e ≠ it) (nf : e ∉ fp)
    (k : ∀ (x : Value) (g : Heap) (tk : Tok), Pk i x → PySem.IsEnumHeld g e it ((i : Int) + 1) old p true → Stt (i + 1) g → g.get? s.heap.objs.size = some { cls := .type "tuple", data := .seq #[.int i tk, x] } → g.objs.size = s.heap.objs.size + 1 →
      (∀ b o, b ≠ e → b ≠ it → s.heap.get? b = some o → g.get? b = some o) → Q (some (.ref s.heap.objs.size)) { s with heap := g, toks := tk + 1 }) : wpAny (model prog w) A (pyNext (.ref e)) Q E s := by
  have ty : s.TypeIs (.ref e) "enumerate" := ⟨_, he, rfl⟩
  unfold pyNext
  refine wpAny_bind (wpAny_attempt (wpAny_callSpecial?_slot (name := Str.ofString "__next__") ty F.slot_enumerate_next ?_))
  refine wpAny_call_entry F.slot_enumerate_next ty F.entry_enumerate_next ?_ (F.args_enumerate_next_1 _)
  exact enum_out_next D he hp pe pi st lt ne nf fun x g tk q1 q2 q3 q4 q5 q6 => wpAny_pure (k x g tk q1 q2 q3 q4 q5 q6)
theorem enum_out_end {e it p : Addr} {fp : List Addr} {n : Nat} {Pk : Nat → Value → Prop} {Stt : Nat → Heap → Prop} {i : Int} {old : Value} {f : Bool} {Q : Option Value → Shared → Prop}
    (D : Draws prog w A.in1 it fp n Pk Stt) (he : PySem.IsEnumHeld s.heap e it i old p f) (st : Stt n s.heap) (k : ∀ g, Heap.ExtBut it s.heap g → Q none { s with heap := g }) : wpAny (model prog w) A (pyNext (.ref e)) Q E s := by
  have ty : s.TypeIs (.ref e) "enumerate" := ⟨_, he, rfl⟩
  unfold pyNext
  refine wpAny_bind (wpAny_attempt (wpAny_callSpecial?_slot (name := Str.ofString "__next__") ty F.slot_enumerate_next ?_))
  refine wpAny_call_entry F.slot_enumerate_next ty F.entry_enumerate_next ?_ (F.args_enumerate_next_1 _)
  refine (?_ : wpAny _ _ (field (.ref e) 2 >>= _) _ _ _)
  refine wpAny_bind (wpAny_field he rfl (x := .ref it) rfl ?_)
  refine wpAny_bind (D.done _ _ _ st fun g x q1 q2 => ?_)
  obtain ⟨o, ho, hc⟩ := q2
  exact wpAny_bind (wpAny_isInstance (T := "StopIteration") (b := true) ⟨o, ho, hc⟩ isSubtype_stop (wpAny_pure (k _ q1)))
def EnumAt (e it : Addr) (i : Nat) (used : List Addr) (h : Heap) : Prop := (∃ old, IsEnum h e it i old) ∨ ∃ old p f op, PySem.IsEnumHeld h e it i old p f ∧ h.get? p = some op ∧ p ≠ e ∧ p ≠ it ∧ p ∈ used
def PairsAt (items : Array Value) (h : Heap) (ps : List Addr) : Prop := ∀ (j : Nat) (p : Addr), ps[j]? = some p → ∃ (t : Tok) (x : Value), items[j]? = some x ∧ h.get? p = some { cls := .type "tuple", data := .seq #[.int j t, x] }
end
section
variable {prog : Program} {w : World} {A : Around} {R : Result → Shared → Prop}
theorem enum_fill (hh : A.in1.in1.handled = none) (e it l box : Addr) (ne : e ≠ it) (le : l ≠ e) (li : l ≠ it) (be : box ≠ e) (bi : box ≠ it) (bl : box ≠ l) (items : Array Value) (few : items.size ≤ sizeLine) (res : Value) (base : Heap) (keepB : ∀ b o, base.get? b = some o → b ≠ e ∧ b ≠ it ∧ b ≠ box) :
    ∀ (left i : Nat) (s : Shared) (ps : List Addr) (c : Nat), items.size - i = left → i ≤ items.size → ps.length = i → EnumAt e it i ps s.heap → s.heap.IsTupleIter it l i → s.heap.IsTuple l items → s.heap.get? box = some { cls := .type "list", dict := none, data := .seq (ps.map Value.ref).toArray c, slots := #[] } →
    PairsAt items s.heap ps → (∀ p ∈ ps, p ≠ e ∧ p ≠ it ∧ p ≠ box ∧ base.get? p = none ∧ p < s.heap.objs.size) → ps.Nodup → (∀ b o, base.get? b = some o → s.heap.get? b = some o) →
    (∀ (h' : Heap) (tk : Tok) (ps' : List Addr) (c' : Nat), ps'.length = items.size → PairsAt items h' ps' → ps'.Nodup → (∀ p ∈ ps', p ≠ box ∧ base.get? p = none) → h'.get? box = some { cls := .type "list", dict := none, data := .seq (ps'.map Value.ref).toArray c', slots := #[] } →
      (∀ b o, base.get? b = some o → h'.get? b = some o) → R (.ok (.ret res)) { s with heap := h', toks := tk }) →
    codeAny (model prog w) A (.builtin "list.extend.loop" ⟨[.ref box, .ref e, res], []⟩) R s := by
  intro left
  induction left with
  | zero =>
    intro i s ps c hk hi pl en iti tup hb pa fr nd kb fin
    have ei : i = items.size := by omega
    subst ei
    refine codeAny_builtin F.entry_extend_loop ?_
    rw [Around.under_plainId F.plain_extend_loop _]
    refine (?_ : wpAny _ A.in1 (pyNext (.ref e) >>= _) _ _ s)
    have dr := Draws.tuple (prog := prog) (w := w) (A := A.in1.in1) hh it l li items
    have last : ∀ (h' : Heap), Heap.ExtBut it s.heap h' → R (.ok (.ret res)) { s with heap := h', toks := s.toks } := fun h' k => by
      refine fin h' s.toks ps c pl (fun j p e1 => ?_) nd (fun p hp => ⟨(fr p hp).2.2.1, (fr p hp).2.2.2.1⟩) (k _ _ bi hb) fun b o q => k b o (keepB b o q).2.1 (kb b o q)
      obtain ⟨t, x, a1, a2⟩ := pa j p e1
      exact ⟨t, x, a1, k _ _ (fr p (List.mem_of_getElem? e1)).2.1 a2⟩
    rcases en with ⟨old, he⟩ | ⟨old, p, f, op, he, _⟩
    · exact wpAny_bind (wpAny_pyNext_enum_endD dr he ⟨iti, tup⟩ fun h' k => wpAny_pure (last h' k))
    · exact wpAny_bind (enum_out_end dr he ⟨iti, tup⟩ fun h' k => wpAny_pure (last h' k))
  | succ left ih =>
    intro i s ps c hk hi pl en iti tup hb pa fr nd kb fin
    have lt : i < items.size := by omega
    refine codeAny_builtin F.entry_extend_loop ?_
    rw [Around.under_plainId F.plain_extend_loop _]
    refine (?_ : wpAny _ A.in1 (pyNext (.ref e) >>= _) _ _ s)
    have dr := Draws.tuple (prog := prog) (w := w) (A := A.in1.in1) hh it l li items
    have hef : e ∉ [it, l] := by simp [ne, Ne.symm le]
    have nsz : s.heap.objs.size ≠ box := Nat.ne_of_gt (Heap.lt_size hb)
    have nse : s.heap.objs.size ≠ e := by
      rcases en with ⟨_, he⟩ | ⟨_, _, _, _, he, _⟩ <;> exact Nat.ne_of_gt (Heap.lt_size he)
    have nsi : s.heap.objs.size ≠ it := by obtain ⟨_, q, _⟩ := iti; exact Nat.ne_of_gt (Heap.lt_size q)
    have nsl : s.heap.objs.size ≠ l := by obtain ⟨_, q, _⟩ := tup; exact Nat.ne_of_gt (Heap.lt_size q)
    have go : ∀ (x : Value) (g : Heap) (tk : Tok), items[i]? = some x → EnumAt e it (i + 1) (ps ++ [s.heap.objs.size]) g → g.IsTupleIter it l (i + 1) ∧ g.IsTuple l items → g.get? s.heap.objs.size = some { cls := .type "tuple", data := .seq #[.int i tk, x] } → g.objs.size = s.heap.objs.size + 1 →
        (∀ b o, b ≠ e → b ≠ it → s.heap.get? b = some o → g.get? b = some o) →
        wpAny (model prog w) A.in1 (updateSeq box (·.push (.ref s.heap.objs.size)) >>= fun _ => again (.builtin "list.extend.loop" ⟨[.ref box, .ref e, res], []⟩))
          (fun fin s' => match fin with | .done f => R (.ok f) s' | .again c' => c'.quiet = true ∧ codeAny (model prog w) A c' R s') (fun e s' => R (.error e) s') { s with heap := g, toks := tk + 1 } := by
      intro x g tk hx en' ⟨iti', tup'⟩ new zg kg
      have hb' := kg _ _ be bi hb
      refine wpAny_bind ?_
      refine wpAny_updateSeq hb' rfl (wpAny_pure ⟨plainId_quiet F.plain_extend_loop _, ?_⟩) (by rw [List.size_toArray, List.length_map]; omega) (by rw [Array.size_push, List.size_toArray, List.length_map]; omega)
      have hb2 := Heap.get?_update_self (Obj.mapSeq (·.push (Value.ref s.heap.objs.size))) hb' rfl
      have k2 : ∀ b o, b ≠ box → g.get? b = some o → (g.update box (Obj.mapSeq (·.push (Value.ref s.heap.objs.size)))).get? b = some o := fun b o nb q => (Heap.get?_update_other _ _ (Ne.symm nb)).trans q
      have ea : (ps.map Value.ref).toArray.push (Value.ref s.heap.objs.size) = ((ps ++ [s.heap.objs.size]).map Value.ref).toArray := by simp
      have z2 : (g.update box (Obj.mapSeq (·.push (Value.ref s.heap.objs.size)))).objs.size = s.heap.objs.size + 1 := by rw [Heap.size_update, zg]
      refine ih (i + 1) _ (ps ++ [s.heap.objs.size]) _ (by omega) lt (by simp [pl]) ?_ (iti'.at fun o q => k2 _ _ (Ne.symm bi) q) (tup'.at fun o q => k2 _ _ (Ne.symm bl) q) (by rw [← ea]; exact hb2) (fun j p e1 => ?_) (fun p hp => ?_) ?_ (fun b o q => k2 _ _ (keepB b o q).2.2 (kg _ _ (keepB b o q).1 (keepB b o q).2.1 (kb b o q))) fun h' tk' ps' c' q1 q2 q3 q4 q5 q6 => fin h' tk' ps' c' q1 q2 q3 q4 q5 q6
      · rcases en' with ⟨old, he⟩ | ⟨old, p, f, op, he, q1, q2, q3, q4⟩
        · exact .inl ⟨old, k2 _ _ (Ne.symm be) he⟩
        · refine .inr ⟨old, p, f, op, k2 _ _ (Ne.symm be) he, k2 _ _ (fun z => ?_) q1, q2, q3, q4⟩
          rcases List.mem_append.mp q4 with m | m
          · exact (fr p m).2.2.1 z
          · exact nsz ((List.mem_singleton.mp m).symm.trans z)
      · by_cases lj : j < ps.length
        · rw [List.getElem?_append_left lj] at e1
          obtain ⟨t, y, a1, a2⟩ := pa j p e1
          have m := fr p (List.mem_of_getElem? e1)
          exact ⟨t, y, a1, k2 _ _ m.2.2.1 (kg _ _ m.1 m.2.1 a2)⟩
        · rw [List.getElem?_append_right (by omega)] at e1
          have lt1 := (List.getElem?_eq_some_iff.mp e1).1
          simp at lt1
          have ej : j = i := by omega
          subst ej
          rw [pl, Nat.sub_self] at e1
          cases e1
          exact ⟨tk, x, hx, k2 _ _ nsz new⟩
      · rw [z2]
        rcases List.mem_append.mp hp with m | m
        · obtain ⟨r1, r2, r3, r4, r5⟩ := fr p m
          exact ⟨r1, r2, r3, r4, Nat.lt_succ_of_lt r5⟩
        · rw [List.mem_singleton.mp m]
          refine ⟨nse, nsi, nsz, ?_, Nat.lt_succ_self _⟩
          cases q : base.get? s.heap.objs.size with
          | none => rfl
          | some o => exact absurd (Heap.lt_size (kb _ _ q)) (Nat.lt_irrefl _)
      · rw [List.nodup_append]
        refine ⟨nd, by simp, fun a ha b hb' => ?_⟩
        rw [List.mem_singleton.mp hb']
        exact Nat.ne_of_lt (fr a ha).2.2.2.2
    have hx : ∀ x, items[i]? = some x → items[i]? = some x := fun _ h => h
    rcases en with ⟨old, he⟩ | ⟨old, p, f, op, he, q1, q2, q3, q4⟩
    · refine wpAny_bind (wpAny_pyNext_enum_itemD dr he ⟨iti, tup⟩ lt ne hef fun x g tk hx out st' new zg kg => ?_)
      refine go x g tk hx (.inr ⟨x, s.heap.objs.size, false, _, ?_, new, nse, nsi, by simp⟩) st' new zg kg
      rw [show ((i + 1 : Nat) : Int) = (i : Int) + 1 by omega]
      exact out
    · refine wpAny_bind (enum_out_item dr he q1 q2 q3 ⟨iti, tup⟩ lt ne hef fun x g tk hx out st' new zg kg => ?_)
      refine go x g tk hx (.inr ⟨old, p, true, op, ?_, kg _ _ q2 q3 q1, q2, q3, List.mem_append_left _ q4⟩) st' new zg kg
      rw [show ((i + 1 : Nat) : Int) = (i : Int) + 1 by omega]
      exact out
end
section
variable {prog : Program} {w : World} {A : Around} {E : Value → Shared → Prop} {s : Shared}
theorem list_enum {e it l : Addr} {items : Array Value} {old : Value} {Q : Value → Shared → Prop} (hh : A.handled = none) (ne : e ≠ it) (le : l ≠ e) (li : l ≠ it) (he : IsEnum s.heap e it 0 old) (iti : s.heap.IsTupleIter it l 0) (tup : s.heap.IsTuple l items) (few : items.size ≤ sizeLine)
    (base : Heap) (kb : ∀ b o, base.get? b = some o → s.heap.get? b = some o) (nb : base.get? e = none ∧ base.get? it = none)
    (k : ∀ (h' : Heap) (tk : Tok) (box : Addr) (ps : List Addr) (c : Nat), ps.length = items.size → PairsAt items h' ps → ps.Nodup → (∀ p ∈ ps, p ≠ box ∧ base.get? p = none) → base.get? box = none → h'.get? box = some { cls := .type "list", dict := none, data := .seq (ps.map Value.ref).toArray c, slots := #[] } →
      (∀ b o, base.get? b = some o → h'.get? b = some o) → Q (.ref box) { s with heap := h', toks := tk }) :
    wpAny (model prog w) A (call (.type "list") [.ref e]) Q E s := by
  refine callType_codes (Q₁ := fun obj s₁ => obj = .ref s.heap.objs.size ∧ s₁ = { s with heap := s.heap.push { cls := .type "list", data := .seq #[] } }) F.called_list (F.typeCall_list_1 _) F.entry_list_init (code_list_new _ ⟨rfl, rfl⟩) fun obj s₁ h₁ => ?_
  obtain ⟨rfl, rfl⟩ := h₁
  have hb : (s.heap.push { cls := .type "list", data := .seq #[] }).get? s.heap.objs.size = some { cls := .type "list", data := .seq #[] } := Heap.get?_push_size _ rfl
  refine ⟨⟨_, hb, rfl⟩, F.args_list_init_2 _ _, ?_⟩
  have k1 : ∀ b o, s.heap.get? b = some o → (s.heap.push { cls := .type "list", data := .seq #[] }).get? b = some o := fun b o q => Heap.get?_push_of_some _ q
  generalize s.heap.push { cls := .type "list", data := .seq #[] } = h1 at hb k1
  have ebox : s.heap.objs.size ≠ e := Nat.ne_of_gt (Heap.lt_size he)
  have ibox : s.heap.objs.size ≠ it := by obtain ⟨_, q, _⟩ := iti; exact Nat.ne_of_gt (Heap.lt_size q)
  have lbox : s.heap.objs.size ≠ l := by obtain ⟨_, q, _⟩ := tup; exact Nat.ne_of_gt (Heap.lt_size q)
  generalize hbx : s.heap.objs.size = box at hb ebox ibox lbox
  have basebox : base.get? box = none := by
    cases q : base.get? box with
    | none => rfl
    | some o => exact absurd (Heap.lt_size (kb _ _ q)) (by rw [hbx]; exact Nat.lt_irrefl _)
  have keepB : ∀ b o, base.get? b = some o → b ≠ e ∧ b ≠ it ∧ b ≠ box := fun b o q => ⟨fun z => (by rw [z, nb.1] at q; cases q), fun z => (by rw [z, nb.2] at q; cases q), fun z => (by rw [z, basebox] at q; cases q)⟩
  refine (?_ : wpAny _ _ (do let was ← Builtin.List.listItems (.ref box); Builtin.List.listUpdate (.ref box) (fun _ => #[]); letGo was.toList.reverse; Builtin.List.listExtendWith (.ref box) (.ref e) .none) _ _ _)
  refine wpAny_bind ?_
  unfold Builtin.List.listItems
  refine wpAny_bind (wpAny_seqItems hb rfl (wpAny_pure ?_))
  refine (?_ : wpAny _ _ (updateSeq box (fun _ => #[]) >>= fun _ => letGo (#[] : Array Value).toList.reverse >>= fun _ => Builtin.List.listExtendWith (.ref box) (.ref e) .none) _ _ _)
  refine wpAny_bind (wpAny_updateSeq hb rfl ?_)
  have hb2 := Heap.get?_update_self (Obj.mapSeq (fun _ => (#[] : Array Value))) hb rfl
  have k2 : ∀ b o, b ≠ box → s.heap.get? b = some o → (h1.update box (Obj.mapSeq (fun _ => (#[] : Array Value)))).get? b = some o := fun b o z q => (Heap.get?_update_other _ _ (Ne.symm z)).trans (k1 b o q)
  generalize h1.update box (Obj.mapSeq (fun _ => (#[] : Array Value))) = h2 at hb2 k2
  refine wpAny_bind (wpAny_letGo ?_)
  have he2 : IsEnum h2 e it 0 old := k2 _ _ (Ne.symm ebox) he
  have ty2 : Shared.TypeIs { s with heap := h2 } (.ref e) "enumerate" := ⟨_, he2, rfl⟩
  unfold Builtin.List.listExtendWith
  refine wpAny_bind (wpAny_typeOf ty2 ?_)
  have x1 : Builtin.List.listSameRef (.ref box) (.ref e) = false := by simp [Builtin.List.listSameRef, ebox]
  have x2 : (Value.type "enumerate" == Value.type "list") = false := by decide
  have x3 : (Value.type "enumerate" == Value.type "tuple") = false := by decide
  simp only [x1, x2, x3, Bool.or_false, Bool.false_eq_true, if_false]
  refine wpAny_bind (wpAny_pyIter_enum he2 ?_)
  refine wpAny_bind (wpAny_holding ?_)
  unfold Builtin.List.listLengthHint
  refine wpAny_bind (wpAny_specialOf ty2 enum_len0 ?_)
  refine (?_ : wpAny _ _ (specialOf (Value.ref e) (Str.ofString "__length_hint__") >>= _) _ _ _)
  refine wpAny_bind (wpAny_specialOf ty2 enum_hint0 ?_)
  refine wpAny_pure ?_
  refine (?_ : wpAny _ _ (rule "list.extend.makes-room" >>= fun _ => Builtin.List.listTouch (.ref box) >>= fun _ => again (.builtin "list.extend.loop" ⟨[.ref box, .ref e, .none], []⟩)) _ _ _)
  refine wpAny_bind (wpAny_rule ?_)
  refine wpAny_bind ?_
  refine (?_ : wpAny _ _ (updateSeq box (·.push .none) >>= fun _ => updateSeq box (·.pop)) _ _ _)
  refine wpAny_bind (wpAny_updateSeq hb2 rfl ?_)
  have hb3 := Heap.get?_update_self (Obj.mapSeq (·.push Value.none)) hb2 rfl
  refine wpAny_updateSeq hb3 rfl ?_
  have hb4 := Heap.get?_update_self (Obj.mapSeq (·.pop)) hb3 rfl
  have k4 : ∀ b o, b ≠ box → s.heap.get? b = some o → ((h2.update box (Obj.mapSeq (·.push Value.none))).update box (Obj.mapSeq (·.pop))).get? b = some o := fun b o z q => (Heap.get?_update_other _ _ (Ne.symm z)).trans ((Heap.get?_update_other _ _ (Ne.symm z)).trans (k2 b o z q))
  refine wpAny_pure ⟨plainId_quiet F.plain_extend_loop _, ?_⟩
  refine enum_fill (by first | exact hh | exact (show A.handled = none from hh)) e it l box ne le li ebox ibox lbox items few .none base keepB items.size 0 _ [] _ rfl (Nat.zero_le _) rfl (.inl ⟨old, k4 _ _ (Ne.symm ebox) he⟩) (iti.at fun o q => k4 _ _ (Ne.symm ibox) q) (tup.at fun o q => k4 _ _ (Ne.symm lbox) q) hb4 (fun j p e1 => by simp at e1) (fun p hp => by cases hp) .nil (fun b o q => k4 b o (keepB b o q).2.2 (kb b o q)) fun h' tk ps c q1 q2 q3 q4 q5 q6 => ?_
  exact ⟨rfl, k h' tk box ps c q1 q2 q3 q4 basebox q5 q6⟩
end
end SL
namespace SL
open PySem PySem.Spec PyProof.Rows L2
structure NewE (H H2 : Hp) (box : Addr) (xs : List V) (ps : List Addr) : Prop where
  len : ps.length = xs.length
  nd : ps.Nodup
  nb : H box = none
  np : ∀ p ∈ ps, p ≠ box ∧ H p = none
  box_ : H2 box = some (.lst (ps.map V.ref))
  pair : ∀ (j : Nat) (p : Addr) (x : V), ps[j]? = some p → xs[j]? = some x → H2 p = some (.tup [.int (j : Nat), x])
  old : ∀ b, b ≠ box → b ∉ ps → H2 b = H b
def mkE (H : Hp) (box : Addr) (xs : List V) (ps : List Addr) : Hp := fun b => if b = box then some (.lst (ps.map V.ref)) else if b ∈ ps then some (.tup [.int ((ps.idxOf b : Nat) : Int), xs.getD (ps.idxOf b) .non]) else H b
theorem mkE_new {H : Hp} {box : Addr} {xs : List V} {ps : List Addr} (len : ps.length = xs.length) (nd : ps.Nodup) (nb : H box = none) (np : ∀ p ∈ ps, p ≠ box ∧ H p = none) : NewE H (mkE H box xs ps) box xs ps := by
  refine ⟨len, nd, nb, np, if_pos rfl, fun j p x e1 e2 => ?_, fun b h1 h2 => ?_⟩
  · have m := List.mem_of_getElem? e1
    obtain ⟨l1, q1⟩ := List.getElem?_eq_some_iff.mp e1
    have ix : ps.idxOf p = j := by rw [← q1]; exact List.Nodup.idxOf_getElem nd j l1
    unfold mkE
    rw [if_neg (np p m).1, if_pos m, ix, List.getD_eq_getElem?_getD, e2]
    rfl
  · unfold mkE
    rw [if_neg h1, if_neg h2]
theorem NewE.ext {H H2 : Hp} {box : Addr} {xs : List V} {ps : List Addr} (N : NewE H H2 box xs ps) {b : Addr} {o : HO} (e : H b = some o) : H2 b = some o := by
  rw [N.old b (fun z => by rw [z, N.nb] at e; cases e) (fun z => by rw [(N.np b z).2] at e; cases e)]
  exact e
section
variable {X : Cx} {pins : List (Addr × Obj)} {σ : L2.St} {H : Hp} {s : Shared}
theorem newE_inv {h' : Heap} {tk : Tok} {box l c : Addr} {xs : List V} {ps : List Addr} {its : List Value} (I : Inv X pins σ H s) (rv : Vals xs its) (few : xs.length ≤ sizeLine) (len : ps.length = its.length) (pa : PairsAt its.toArray h' ps) (nd : ps.Nodup) (fr : ∀ p ∈ ps, p ≠ box ∧ s.heap.get? p = none) (fb : s.heap.get? box = none)
    (hb : h'.get? box = some { cls := .type "list", dict := none, data := .seq (ps.map Value.ref).toArray c, slots := #[] }) (k : ∀ b o, s.heap.get? b = some o → h'.get? b = some o) :
    NewE H (mkE H box xs ps) box xs ps ∧ Inv X pins σ (mkE H box xs ps) { s with heap := h', toks := tk } := by
  have N := mkE_new (H := H) (box := box) (xs := xs) (ps := ps) (len.trans rv.length.symm) nd (I.hok.gone fb) fun p hp => ⟨(fr p hp).1, I.hok.gone (fr p hp).2⟩
  generalize mkE H box xs ps = H2 at N
  refine ⟨N, I.un ⟨fun b o q _ _ _ => k b o q, fun b o q _ _ _ => ⟨o.slots, k b o q⟩, fun b o q n _ => ?_, fun b o q _ => ⟨o, k b o q⟩, fun b ys q => N.ext q, fun b o ys q => N.ext q, fun b ys q => ⟨#[], by rw [N.ext q]; simp⟩⟩ fun b u e => ?_⟩
  · rw [N.old b (fun z => by rw [z, fb] at q; cases q) (fun z => by rw [(fr b z).2] at q; cases q)]
    exact n
  · by_cases eb : b = box
    · subst eb
      rw [N.box_] at e
      cases e
      have vr : ∀ qs : List Addr, Vals (qs.map V.ref) (qs.map Value.ref) := by
        intro qs
        induction qs with
        | nil => exact .nil
        | cons q r ih => exact .cons rfl ih
      exact ⟨by rw [List.length_map, N.len]; exact few, _, c, vr ps, hb⟩
    · by_cases ep : b ∈ ps
      · obtain ⟨j, hj⟩ := List.mem_iff_getElem?.mp ep
        obtain ⟨t, x, q1, q2⟩ := pa j b hj
        have lj : j < xs.length := by rw [← N.len]; exact (List.getElem?_eq_some_iff.mp hj).1
        have hx : xs[j]? = some xs[j] := List.getElem?_eq_getElem lj
        rw [N.pair j b _ hj hx] at e
        cases e
        obtain ⟨u, hu, ru⟩ := rv.get hx
        have ux : u = x := by
          have z : its[j]? = some x := by simpa using q1
          rw [hu] at z
          exact Option.some.inj z
        subst ux
        exact ⟨by show 2 ≤ sizeLine; decide, [.int j t, u], .cons ⟨_, rfl⟩ (.cons ru .nil), ⟨_, q2, rfl, _, rfl⟩⟩
      · rw [N.old b eb ep] at e
        exact (I.hok b u e).stay (fun c v _ q => k c v q) (fun c q => N.ext q) fun c ys q => N.ext q
def tListE (K : PySem.W.Frag) (ta : TA) : TE := fun σ H Q => ta σ H fun vs H1 => ∃ (a : Addr) (xs : List V), vs = [.ref a] ∧ SqT K H1 a xs ∧ ∀ (box : Addr) (ps : List Addr) (H2 : Hp), NewE H1 H2 box xs ps → Q (.ref box) H2
theorem pe_listEnum {e : Expr} {ta : TA} {p pos p2 pos2 : Pos} (hc : X.calm = true) (hg : Gl X "list") (hm : X.mg "list" = none) (g1 : Gl X "enumerate") (m1 : X.mg "enumerate" = none) (ha : PA X [e] ta) (one : starEach [e] X.env = [(false, eval e X.env)] := by rfl)
    (na : starEach [.Call (.Name "enumerate" p2) [e] [] pos2] X.env = (false, eval (.Call (.Name "enumerate" p2) [e] [] pos2) X.env) :: starEach [] X.env := by rfl) :
    PE X (.Call (.Name "list" p) [.Call (.Name "enumerate" p2) [e] [] pos2] [] pos) (tListE X.K ta) := by
  refine ⟨fun pins s σ H Q I h => ?_⟩
  refine Call_ (ld_blt I hg hm boot_list (PyProof.Rows.callWith_type1 (args_cons ?_ na) na))
  refine Call_ (ld_blt I g1 m1 boot_enumerate (PyProof.Rows.callWith_type1 (thn (ha.run pos2 pins s σ H _ I h) ?_) one rfl))
  rintro us s1 ⟨vs, H1, I1, r1, a, xs, rfl, hq, q⟩
  cases r1 with
  | cons r rr =>
    cases rr
    cases r
    obtain ⟨its, rv, ht, hz⟩ := I1.tuple hq
    have ht' : s1.heap.IsTuple a its.toArray := ht
    have al : a < s1.heap.objs.size := by obtain ⟨_, e1, _⟩ := ht'; exact Heap.lt_size e1
    refine enum_call ht' fun h1 he hit kept => ?_
    refine args_nil ?_
    have gone : ∀ b, s1.heap.objs.size ≤ b → s1.heap.get? b = none := fun b hb => by
      cases q' : s1.heap.get? b with
      | none => rfl
      | some o => exact absurd (Heap.lt_size q') (Nat.not_lt.mpr hb)
    refine list_enum (s := { s1 with heap := h1 }) (I1.ok.hd hc) (Nat.succ_ne_self _) (Nat.ne_of_lt (Nat.lt_succ_of_lt al)) (Nat.ne_of_lt al) he hit (ht'.at fun o e1 => kept _ _ e1) (by rw [List.size_toArray, ← rv.length]; exact hz) s1.heap kept ⟨gone _ (Nat.le_succ _), gone _ (Nat.le_refl _)⟩ fun h' tk box ps c q1 q2 q3 q4 q5 q6 q7 => ?_
    obtain ⟨N, J⟩ := newE_inv (l := a) (tk := tk) I1 rv hz (by rw [q1, List.size_toArray]) q2 q3 q4 q5 q6 q7
    exact ⟨.ref box, _, J, rfl, q box ps _ N⟩
end
end SL
namespace DL
open PySem PySem.Spec PyProof.Rows L2 LamX PySem.W SL
def dLEnum (fs : DTA) : DTE := fun r st Q => fs r st fun ds st1 => on1 ds fun x => match x with
  | .tup xs => Q (.lst (enumD xs)) st1
  | _ => False
@[simp] theorem e_lenum {fs : DTA} {r : DEnv} {st : DSt} {Q : DK} : dLEnum fs r st Q = fs r st fun ds st1 => on1 ds fun x => match x with
  | .tup xs => Q (.lst (enumD xs)) st1
  | _ => False := rfl
section
variable {T : List (Addr × Str)} {X : Cx}
theorem enum_rvs {K : Frag} {M : Pl} {H1 H2 : Hp} {box : Addr} {ps : List Addr} {xs : List D} {ys : List V} (N : NewE H1 H2 box ys ps) (g : Grow M H1 M H2) (out : ∀ p ∈ ps, p ∉ M.m) (r : RVs K M H1 xs ys) : RVs K M H2 (enumD xs) (ps.map V.ref) := by
  have key : ∀ (zs : List D) (qs : List Addr) (k : Nat), zs.length = qs.length → (∀ (j : Nat) (d : D) (p : Addr), zs[j]? = some d → qs[j]? = some p → xs[k + j]? = some d ∧ ps[k + j]? = some p) → RVs K M H2 ((zs.zipIdx k).map fun p => D.tuk [.int (p.2 : Nat), p.1]) (qs.map V.ref) := by
    intro zs
    induction zs with
    | nil =>
      intro qs k l _
      have : qs = [] := List.length_eq_zero_iff.mp l.symm
      subst this
      exact .nil
    | cons z zs ih =>
      intro qs k l h
      cases qs with
      | nil => cases l
      | cons q qs =>
        obtain ⟨a1, a2⟩ := h 0 z q rfl rfl
        obtain ⟨v, hv, rv⟩ := r.get (i := k) (by simpa using a1)
        refine .cons (.tuk (out q (List.mem_of_getElem? a2)) (N.pair k q v (by simpa using a2) hv) (.cons (.int _) (.cons (rv.grow g) .nil))) (ih qs (k + 1) (by simpa using l) fun j d p e1 e2 => ?_)
        have z1 := h (j + 1) d p (by simpa using e1) (by simpa using e2)
        rw [show k + 1 + j = k + (j + 1) by omega]
        exact z1
  exact key xs ps 0 (r.length.trans N.len.symm) fun j d p e1 e2 => by rw [Nat.zero_add]; exact ⟨e1, e2⟩
theorem de_lenum {e : Expr} {fs : DTA} {p pos p2 pos2 : Pos} (hc : X.calm = true) (hg : Gl X "list") (hm : X.mg "list" = none) (g1 : Gl X "enumerate") (m1 : X.mg "enumerate" = none) (ha : DA T X [e] fs) (one : starEach [e] X.env = [(false, eval e X.env)] := by rfl)
    (na : starEach [.Call (.Name "enumerate" p2) [e] [] pos2] X.env = (false, eval (.Call (.Name "enumerate" p2) [e] [] pos2) X.env) :: starEach [] X.env := by rfl) :
    DE T X (.Call (.Name "list" p) [.Call (.Name "enumerate" p2) [e] [] pos2] [] pos) (dLEnum fs) :=
  PE.imp (pe_listEnum hc hg hm g1 m1 ha one na) fun σ H Q ⟨M, r, st, Q', s, re, h, k⟩ => ⟨M, r, st, _, s, re, h, fun M1 H1 st1 ds vs g1 s1 r1 q => by
    obtain ⟨x, rfl, q⟩ := on1.of q
    obtain ⟨v, rfl, rv⟩ := r1.one
    cases x with
    | tup xs =>
      cases rv with
      | @tup a ob ys _ nin he hd rs =>
        refine ⟨a, ys, rfl, .inl (.inr ⟨_, he⟩), fun box ps H2 N => ?_⟩
        have ext : ExtN H1 H2 := fun b o e1 _ => N.ext e1
        have g := grow_ext s1 ext
        have s2 := s1.ext ext (s1.tabs.ext fun b o e1 => N.ext e1)
        exact k M1 H2 st1 _ _ (g1.trans g) s2 (.lst (s1.notin N.nb) N.box_ (enum_rvs N g (fun p hp => s1.notin (N.np p hp).2) rs)) q
    | _ => exact q.elim⟩
end
end DL
namespace DL
open PySem PySem.Spec PyProof.Rows L2 LamX PySem.W SL
def F__law_worths : DTS := (sSeq (sSet 3 (dLcG (wSeq (dVar 1)) (gTp 2 (gsCons (gNm 4) (gsCons (gNm 5) gsNil))) dtYes (dOp dMod (dOp dSub (dVar 5) (dOp dIx (dVar 0) (dVar 4))) (dVar 2)) [4, 5] finT)) (sRet (dTup (daCons (dCB dMaxL (daCons (dOp dAdd (dLst (daCons (dC (.int 0)) daNil)) (dVar 3)) daNil)) (daCons (dCB dSum (daCons (dLcG (wSeq (dVar 3)) (gNm 4) dtYes (dOp dMul (dVar 4) (dVar 4)) [4] finT) daNil)) daNil)))))
def F__law_all_ways : DTS := (sSeq (sSet 2 (dLst (daCons (dTup daNil) daNil))) (sSeq (sFor (wRng1 (daCons (dVar 0) daNil)) (gNm 3) (sSeq (sSet 4 (dLstN daNil)) (sSeq (sFor (wSeq (dVar 2)) (gNm 5) (sDrop (dMtL mExtend (dVar 4) (daCons (dLcG (wSeq (dVar 1)) (gNm 6) (dTest (dOp dNotIn (dVar 6) (dVar 5))) (dOp dAdd (dVar 5) (dTup (daCons (dVar 6) daNil))) [6] finT) daNil)))) (sSet 2 (dVar 4))))) (sRet (dVar 2))))
def F__law_setting_right (g_taken : DRs) (g_greatest_distance : DRs) (g_square_sum : DRs) (g_layout_of : DRs) (g_is_ordered : DRs) (g_farther_rule : DRs) (g__law_mixed : DRs) (g__law_line_setting : DRs) (g__law_worths : DRs) (g__law_all_ways : DRs) : DTS := (sSeq (sAsg (dCB g__law_line_setting (daCons (dVar 0) (daCons (dVar 1) (daCons (dVar 2) daNil)))) (gTp 2 (gsCons (gNm 3) (gsCons (gNm 4) gsNil)))) (sSeq (sSet 5 (dCB g_farther_rule (daCons (dVar 4) daNil))) (sSeq (sSet 6 (dCB g_layout_of (daCons (dVar 4) (daCons (dVar 5) (daCons (dCB dTuple (daCons (dCB g__law_mixed (daCons (dVar 0) (daCons (dLRg1 finT (dVar 1)) daNil))) daNil)) daNil))))) (sSeq (sSet 7 (dCB dTuple (daCons (dLcG (wRng1 (daCons (dVar 2) daNil)) (gNm 16) dtYes (dMtL mCount (dVar 3) (daCons (dVar 16) daNil)) [16] finT) daNil))) (sSeq (sSet 9 (dLcG (wEnum (daCons (dVar 6) daNil)) (gTp 2 (gsCons (gNm 16) (gsCons (gNm 8) gsNil))) (dTest (dOp dGe (dVar 8) (dC (.int 0)))) (dTup (daCons (dVar 8) (daCons (dVar 16) daNil))) [16, 8] finT)) (sSeq (sSet 10 (dTup (daCons (dCB g_greatest_distance (daCons (dVar 7) daNil)) (daCons (dCB g_square_sum (daCons (dVar 7) daNil)) daNil)))) (sSeq (sIf (dtOr (dtNot (dTest (dCB g_is_ordered (daCons (dVar 5) daNil)))) (dTest (dOp dNe (dLcG (wSeq (dVar 9)) (gTp 2 (gsCons (gNm 8) (gsCons (gNm 16) gsNil))) dtYes (dVar 16) [8, 16] finT) (dCB dListT (daCons (dCB g_taken (daCons (dVar 7) daNil)) daNil))))) (sRet (dC (.bl false))) sNext) (sSeq (sIf (dTest (dOp dNe (dCB g__law_worths (daCons (dVar 3) (daCons (dVar 9) (daCons (dVar 2) daNil)))) (dVar 10))) (sRet (dC (.bl false))) sNext) (sSeq (sIf (dTest (dOp dLtG (dVar 1) (dC (.int 7)))) (sFor (wSeq (dCB g__law_all_ways (daCons (dVar 1) (daCons (dCB g_taken (daCons (dVar 7) daNil)) daNil)))) (gNm 11) (sSeq (sAsg (dCB g__law_worths (daCons (dVar 3) (daCons (dLEnum (daCons (dVar 11) daNil)) (daCons (dVar 2) daNil)))) (gTp 2 (gsCons (gNm 12) (gsCons (gNm 13) gsNil)))) (sIf (dtOr (dTest (dOp dLtG (dVar 12) (dOp dIx (dVar 10) (dC (.int 0))))) (dTest (dOp dLtG (dVar 13) (dOp dIx (dVar 10) (dC (.int 1)))))) (sRet (dC (.bl false))) sNext))) sNext) (sSeq (sFor (wRng1 (daCons (dCB dLen (daCons (dVar 9) daNil)) daNil)) (gNm 8) (sFor (wRng1 (daCons (dVar 8) daNil)) (gNm 14) (sSeq (sSet 15 (dCB dListN (daCons (dVar 9) daNil))) (sSeq (sAsg (dTup (daCons (dTup (daCons (dOp dIx (dOp dIx (dVar 9) (dVar 8)) (dC (.int 0))) (daCons (dOp dIx (dOp dIx (dVar 9) (dVar 14)) (dC (.int 1))) daNil))) (daCons (dTup (daCons (dOp dIx (dOp dIx (dVar 9) (dVar 14)) (dC (.int 0))) (daCons (dOp dIx (dOp dIx (dVar 9) (dVar 8)) (dC (.int 1))) daNil))) daNil))) (gTp 2 (gsCons (gSb (dVar 15) (dVar 8)) (gsCons (gSb (dVar 15) (dVar 14)) gsNil)))) (sSeq (sAsg (dCB g__law_worths (daCons (dVar 3) (daCons (dVar 15) (daCons (dVar 2) daNil)))) (gTp 2 (gsCons (gNm 12) (gsCons (gNm 13) gsNil)))) (sIf (dtOr (dTest (dOp dLtG (dVar 12) (dOp dIx (dVar 10) (dC (.int 0))))) (dTest (dOp dLtG (dVar 13) (dOp dIx (dVar 10) (dC (.int 1)))))) (sRet (dC (.bl false))) sNext)))))) (sRet (dC (.bl true)))))))))))))
def F__law_right_v21 (g__law_take : DRs) (g__law_setting_right : DRs) : DTS := (sSeq (sFor (wRng1 (daCons (dC (.int 3)) daNil)) (gNm 1) (sSeq (sSet 2 (dOp dAdd (dC (.int 1)) (dCB g__law_take (daCons (dVar 0) (daCons (dC (.int 9)) daNil))))) (sIf (dtNot (dTest (dCB g__law_setting_right (daCons (dVar 0) (daCons (dOp dAdd (dC (.int 1)) (dCB g__law_take (daCons (dVar 0) (daCons (dCB dMin2 (daCons (dC (.int 6)) (daCons (dVar 2) daNil))) daNil)))) (daCons (dVar 2) daNil)))))) (sRet (dC (.bl false))) sNext))) (sSeq (sSet 2 (dOp dAdd (dC (.int 9)) (dCB g__law_take (daCons (dVar 0) (daCons (dC (.int 8)) daNil))))) (sRet (dCB g__law_setting_right (daCons (dVar 0) (daCons (dOp dAdd (dC (.int 7)) (dCB g__law_take (daCons (dVar 0) (daCons (dCB dMin2 (daCons (dC (.int 8)) (daCons (dOp dSub (dVar 2) (dC (.int 6))) daNil))) daNil)))) (daCons (dVar 2) daNil)))))))
end DL
namespace DL
open PySem PySem.Spec PyProof.Rows L2 LamX PySem.W SL
def IsPr (p : Nat × Nat) (d : D) : Prop := d = .tup [.int (p.1 : Nat), .int (p.2 : Nat)] ∨ d = .tuk [.int (p.1 : Nat), .int (p.2 : Nat)]
inductive F2 : List (Nat × Nat) → List D → Prop
  | nil : F2 [] []
  | cons {p : Nat × Nat} {d : D} {ps : List (Nat × Nat)} {zs : List D} : IsPr p d → F2 ps zs → F2 (p :: ps) (d :: zs)
theorem F2.length_eq : ∀ {ps : List (Nat × Nat)} {zs : List D}, F2 ps zs → ps.length = zs.length
  | _, _, .nil => rfl
  | _, _, .cons _ t => congrArg (· + 1) t.length_eq
def farL (n : Nat) (hs : List Nat) (ps : List (Nat × Nat)) : List Int := ps.map fun p => ((ML.dist n (hm hs p.1) p.2 : Nat) : Int)
theorem farL_bd {n : Nat} {hs : List Nat} {ps : List (Nat × Nat)} (n0 : 0 < n) : ∀ x ∈ farL n hs ps, 0 ≤ x ∧ x < n := fun x hx => by
  obtain ⟨p, _, rfl⟩ := List.mem_map.mp hx
  have := ML.dist_lt (a := hm hs p.1) (i := p.2) n0
  omega
theorem dist_modS {n h s : Nat} (n0 : 0 < n) (lh : h < n) : (((s : Int) - (h : Int)) % (n : Int)) = ((ML.dist n h s : Nat) : Int) := by
  unfold ML.dist
  have e : ((s + (n - h) : Nat) : Int) = (s : Int) - (h : Int) + (n : Int) := by omega
  rw [Int.natCast_emod, e, Int.add_emod_right]
def Wk1 (st : DSt) (x : D) (zs : List D) : Prop := x = .lst zs ∨ ∃ q, x = .ref q ∧ st[q]? = some (.lst zs)
theorem Wk1.it {st : DSt} {x : D} {zs : List D} (h : Wk1 st x zs) : ∃ src, itOf st x = some ⟨zs, src⟩ ∧ okS ⟨zs, src⟩ st := by
  rcases h with rfl | ⟨q, rfl, e⟩
  · exact ⟨none, rfl, .inl rfl⟩
  · exact ⟨_, itL_ref e, .inr ⟨_, _, rfl, e⟩⟩
def g_worths : DRs := fun ds st Q => ∃ (n : Nat) (hs : List Nat) (ps : List (Nat × Nat)) (x : D) (zs : List D), ds = [.lst (hL hs), x, .int (n : Nat)] ∧ Wk1 st x zs ∧ F2 ps zs ∧ (∀ p ∈ ps, p.1 < hs.length) ∧ (∀ h ∈ hs, h < n) ∧ 0 < n ∧ n ≤ 100 ∧ ps.length ≤ 100 ∧
  Q (.tup [.int (maxI (farL n hs ps)), .int (ML.sumL ((farL n hs ps).map fun x => x * x))]) st
theorem ar_worths (ds : List D) (st : DSt) (Q : DK) (h : g_worths ds st Q) : ds.length = 3 := by
  obtain ⟨_, _, _, _, _, rfl, _⟩ := h
  rfl
theorem f2_len {ps : List (Nat × Nat)} {zs : List D} (f : F2 ps zs) : zs.length = ps.length := f.length_eq.symm
set_option maxHeartbeats 4000000 in
theorem compP {te : DTE} {r : DEnv} {Q : List D → DSt → Prop} {st : DSt} {I : DIt} {g : DTG} (ok : okS I st) (h : Nat × Nat → D) :
    ∀ {ps : List (Nat × Nat)} {zs : List D} (acc : List D), F2 ps zs → (∀ p d, p ∈ ps → IsPr p d → ∀ Q' : DEnv → DSt → Prop, (∀ r2, Ev te r2 st (h p) → Q' r2 st) → g d r st Q') → Q (acc ++ ps.map h) st → compL I g dtYes te r Q zs acc st
  | [], _, acc, .nil, _, q => by
    rw [List.map_nil, List.append_nil] at q
    exact okI_in ok q
  | p :: ps, _, acc, .cons (d := d) hp f, he, q => by
    refine okI_in ok ?_
    refine he p d List.mem_cons_self hp _ fun r2 ev => ?_
    rw [e_tYes]
    refine iteT (ev _ ?_)
    refine compP ok h _ f (fun p' d' hp' => he p' d' (List.mem_cons_of_mem _ hp')) ?_
    rw [List.append_assoc]
    exact q
set_option maxHeartbeats 4000000 in
theorem sem_worths (ds : List D) (st : DSt) (Q : DK) (h : g_worths ds st Q) : F__law_worths { nx := fun _ st' => Rt st Q .non st', rt := Rt st Q } (startD 6 ds) st := by
  obtain ⟨n, hs, ps, x, zs, rfl, wk, f2, kl, hl, n0, n1, few, q⟩ := h
  have st6 : startD 6 [D.lst (hL hs), x, D.int (n : Nat)] = [some (.lst (hL hs)), some x, some (.int (n : Nat)), none, none, none] := rfl
  have big : (2000 : Nat) ≤ sizeLine := by decide
  simp only [F__law_worths, st6]
  obtain ⟨src, e1, ok⟩ := wk.it
  try dsimp only
  rw [e_seq]
  try simp only [e_var, e_C, e_op, e_neg, e_isN, e_notN, e_and, e_or, e_not, e_test, e_tAnd, e_tOr, e_tNot, e_tYes, e_if, e_aNil, e_aCons, e_tup, e_lst, e_lstN, e_len0, e_len1, e_len2, e_len3, e_len4, e_len5, e_cb, e_on1, e_on2, e_onI, e_onB, e_onO, e_onO0, e_onOO, e_I0, e_I, e_add, e_addT, e_addS, e_addL, e_addLR, e_addRL, e_addRR, e_mul, e_mulL, e_mulT, e_rev, e_revT, e_ix, e_eqI, e_eqS, e_eqB, e_neI, e_neS, e_neB, e_ltI, e_chain, e_len, e_abs, e_2I, e_tuple1, e_tuple2, e_tuple3, e_listT, e_listN, e_allR, e_seqT, e_seqK, e_seqL, e_isi, e_isB, e_notB, e_truth, e_next, e_drop, e_ret, e_retN, e_ifS, e_set, e_asg, e_par, e_nm, e_gsN, e_gsC, e_gTpK, e_gTpL, e_sum, e_maxL, e_minL, e_maxDef, e_int, e_intB, e_aug, e_on3, e_par3, e_newK, e_getK, e_keyI, e_keyS, e_inK, e_ninK, e_putK, e_lenK, e_lstS, e_seqX, e_gTpT, e_oN, e_oS, e_sl, e_slT, e_slL, e_finT, e_finN, e_index, e_idxT, e_idxL, e_mIx, e_ixST, e_ixSL, e_mtL, e_w, e_w1, e_w2, e_wE, e_wZ, e_itK, e_itT, e_itL, e_itT2, e_itL2, e_lc, e_for, e_wipe0, e_wipe, e_okI, e_okR, e_gSb, List.getElem?_cons_zero, List.getElem?_cons_succ, List.set_cons_zero, List.set_cons_succ, e1]
  refine ⟨by rw [f2_len f2]; omega, ?_⟩
  refine compP ok (fun p => .int ((ML.dist n (hm hs p.1) p.2 : Nat) : Int)) [] f2 (fun p d hp ip Q' k => ?_) ?_
  · have lk := kl p hp
    have lh : hm hs p.1 < n := by
      unfold hm
      rw [List.getD_eq_getElem?_getD, List.getElem?_eq_getElem lk]
      exact hl _ (List.getElem_mem lk)
    rcases ip with rfl | rfl
    · try simp only [e_var, e_C, e_op, e_neg, e_isN, e_notN, e_and, e_or, e_not, e_test, e_tAnd, e_tOr, e_tNot, e_tYes, e_if, e_aNil, e_aCons, e_tup, e_lst, e_lstN, e_len0, e_len1, e_len2, e_len3, e_len4, e_len5, e_cb, e_on1, e_on2, e_onI, e_onB, e_onO, e_onO0, e_onOO, e_I0, e_I, e_add, e_addT, e_addS, e_addL, e_addLR, e_addRL, e_addRR, e_mul, e_mulL, e_mulT, e_rev, e_revT, e_ix, e_eqI, e_eqS, e_eqB, e_neI, e_neS, e_neB, e_ltI, e_chain, e_len, e_abs, e_2I, e_tuple1, e_tuple2, e_tuple3, e_listT, e_listN, e_allR, e_seqT, e_seqK, e_seqL, e_isi, e_isB, e_notB, e_truth, e_next, e_drop, e_ret, e_retN, e_ifS, e_set, e_asg, e_par, e_nm, e_gsN, e_gsC, e_gTpK, e_gTpL, e_sum, e_maxL, e_minL, e_maxDef, e_int, e_intB, e_aug, e_on3, e_par3, e_newK, e_getK, e_keyI, e_keyS, e_inK, e_ninK, e_putK, e_lenK, e_lstS, e_seqX, e_gTpT, e_oN, e_oS, e_sl, e_slT, e_slL, e_finT, e_finN, e_index, e_idxT, e_idxL, e_mIx, e_ixST, e_ixSL, e_mtL, e_w, e_w1, e_w2, e_wE, e_wZ, e_itK, e_itT, e_itL, e_itT2, e_itL2, e_lc, e_for, e_wipe0, e_wipe, e_okI, e_okR, e_gSb, List.getElem?_cons_zero, List.getElem?_cons_succ, List.set_cons_zero, List.set_cons_succ]
      refine ⟨rfl, k _ fun Q2 q2 => ?_⟩
      try simp only [e_var, e_C, e_op, e_neg, e_isN, e_notN, e_and, e_or, e_not, e_test, e_tAnd, e_tOr, e_tNot, e_tYes, e_if, e_aNil, e_aCons, e_tup, e_lst, e_lstN, e_len0, e_len1, e_len2, e_len3, e_len4, e_len5, e_cb, e_on1, e_on2, e_onI, e_onB, e_onO, e_onO0, e_onOO, e_I0, e_I, e_add, e_addT, e_addS, e_addL, e_addLR, e_addRL, e_addRR, e_mul, e_mulL, e_mulT, e_rev, e_revT, e_ix, e_eqI, e_eqS, e_eqB, e_neI, e_neS, e_neB, e_ltI, e_chain, e_len, e_abs, e_2I, e_tuple1, e_tuple2, e_tuple3, e_listT, e_listN, e_allR, e_seqT, e_seqK, e_seqL, e_isi, e_isB, e_notB, e_truth, e_next, e_drop, e_ret, e_retN, e_ifS, e_set, e_asg, e_par, e_nm, e_gsN, e_gsC, e_gTpK, e_gTpL, e_sum, e_maxL, e_minL, e_maxDef, e_int, e_intB, e_aug, e_on3, e_par3, e_newK, e_getK, e_keyI, e_keyS, e_inK, e_ninK, e_putK, e_lenK, e_lstS, e_seqX, e_gTpT, e_oN, e_oS, e_sl, e_slT, e_slL, e_finT, e_finN, e_index, e_idxT, e_idxL, e_mIx, e_ixST, e_ixSL, e_mtL, e_w, e_w1, e_w2, e_wE, e_wZ, e_itK, e_itT, e_itL, e_itT2, e_itL2, e_lc, e_for, e_wipe0, e_wipe, e_okI, e_okR, e_gSb, List.getElem?_cons_zero, List.getElem?_cons_succ, List.set_cons_zero, List.set_cons_succ, hL_at lk]
      refine ⟨by omega, ?_⟩
      rw [dist_modS n0 lh]
      exact q2
    · try simp only [e_var, e_C, e_op, e_neg, e_isN, e_notN, e_and, e_or, e_not, e_test, e_tAnd, e_tOr, e_tNot, e_tYes, e_if, e_aNil, e_aCons, e_tup, e_lst, e_lstN, e_len0, e_len1, e_len2, e_len3, e_len4, e_len5, e_cb, e_on1, e_on2, e_onI, e_onB, e_onO, e_onO0, e_onOO, e_I0, e_I, e_add, e_addT, e_addS, e_addL, e_addLR, e_addRL, e_addRR, e_mul, e_mulL, e_mulT, e_rev, e_revT, e_ix, e_eqI, e_eqS, e_eqB, e_neI, e_neS, e_neB, e_ltI, e_chain, e_len, e_abs, e_2I, e_tuple1, e_tuple2, e_tuple3, e_listT, e_listN, e_allR, e_seqT, e_seqK, e_seqL, e_isi, e_isB, e_notB, e_truth, e_next, e_drop, e_ret, e_retN, e_ifS, e_set, e_asg, e_par, e_nm, e_gsN, e_gsC, e_gTpK, e_gTpL, e_sum, e_maxL, e_minL, e_maxDef, e_int, e_intB, e_aug, e_on3, e_par3, e_newK, e_getK, e_keyI, e_keyS, e_inK, e_ninK, e_putK, e_lenK, e_lstS, e_seqX, e_gTpT, e_oN, e_oS, e_sl, e_slT, e_slL, e_finT, e_finN, e_index, e_idxT, e_idxL, e_mIx, e_ixST, e_ixSL, e_mtL, e_w, e_w1, e_w2, e_wE, e_wZ, e_itK, e_itT, e_itL, e_itT2, e_itL2, e_lc, e_for, e_wipe0, e_wipe, e_okI, e_okR, e_gSb, List.getElem?_cons_zero, List.getElem?_cons_succ, List.set_cons_zero, List.set_cons_succ]
      refine ⟨rfl, k _ fun Q2 q2 => ?_⟩
      try simp only [e_var, e_C, e_op, e_neg, e_isN, e_notN, e_and, e_or, e_not, e_test, e_tAnd, e_tOr, e_tNot, e_tYes, e_if, e_aNil, e_aCons, e_tup, e_lst, e_lstN, e_len0, e_len1, e_len2, e_len3, e_len4, e_len5, e_cb, e_on1, e_on2, e_onI, e_onB, e_onO, e_onO0, e_onOO, e_I0, e_I, e_add, e_addT, e_addS, e_addL, e_addLR, e_addRL, e_addRR, e_mul, e_mulL, e_mulT, e_rev, e_revT, e_ix, e_eqI, e_eqS, e_eqB, e_neI, e_neS, e_neB, e_ltI, e_chain, e_len, e_abs, e_2I, e_tuple1, e_tuple2, e_tuple3, e_listT, e_listN, e_allR, e_seqT, e_seqK, e_seqL, e_isi, e_isB, e_notB, e_truth, e_next, e_drop, e_ret, e_retN, e_ifS, e_set, e_asg, e_par, e_nm, e_gsN, e_gsC, e_gTpK, e_gTpL, e_sum, e_maxL, e_minL, e_maxDef, e_int, e_intB, e_aug, e_on3, e_par3, e_newK, e_getK, e_keyI, e_keyS, e_inK, e_ninK, e_putK, e_lenK, e_lstS, e_seqX, e_gTpT, e_oN, e_oS, e_sl, e_slT, e_slL, e_finT, e_finN, e_index, e_idxT, e_idxL, e_mIx, e_ixST, e_ixSL, e_mtL, e_w, e_w1, e_w2, e_wE, e_wZ, e_itK, e_itT, e_itL, e_itT2, e_itL2, e_lc, e_for, e_wipe0, e_wipe, e_okI, e_okR, e_gSb, List.getElem?_cons_zero, List.getElem?_cons_succ, List.set_cons_zero, List.set_cons_succ, hL_at lk]
      refine ⟨by omega, ?_⟩
      rw [dist_modS n0 lh]
      exact q2
  refine fin_lst ?_
  rw [List.nil_append]
  have ef : ps.map (fun p => D.int ((ML.dist n (hm hs p.1) p.2 : Nat) : Int)) = (farL n hs ps).map D.int := by unfold farL; rw [List.map_map]; rfl
  rw [ef]
  have fb := farL_bd (n := n) (hs := hs) (ps := ps) n0
  have fl : (farL n hs ps).length ≤ 100 := by unfold farL; rw [List.length_map]; exact few
  generalize farL n hs ps = l at fb fl q
  try simp only [e_var, e_C, e_op, e_neg, e_isN, e_notN, e_and, e_or, e_not, e_test, e_tAnd, e_tOr, e_tNot, e_tYes, e_if, e_aNil, e_aCons, e_tup, e_lst, e_lstN, e_len0, e_len1, e_len2, e_len3, e_len4, e_len5, e_cb, e_on1, e_on2, e_onI, e_onB, e_onO, e_onO0, e_onOO, e_I0, e_I, e_add, e_addT, e_addS, e_addL, e_addLR, e_addRL, e_addRR, e_mul, e_mulL, e_mulT, e_rev, e_revT, e_ix, e_eqI, e_eqS, e_eqB, e_neI, e_neS, e_neB, e_ltI, e_chain, e_len, e_abs, e_2I, e_tuple1, e_tuple2, e_tuple3, e_listT, e_listN, e_allR, e_seqT, e_seqK, e_seqL, e_isi, e_isB, e_notB, e_truth, e_next, e_drop, e_ret, e_retN, e_ifS, e_set, e_asg, e_par, e_nm, e_gsN, e_gsC, e_gTpK, e_gTpL, e_sum, e_maxL, e_minL, e_maxDef, e_int, e_intB, e_aug, e_on3, e_par3, e_newK, e_getK, e_keyI, e_keyS, e_inK, e_ninK, e_putK, e_lenK, e_lstS, e_seqX, e_gTpT, e_oN, e_oS, e_sl, e_slT, e_slL, e_finT, e_finN, e_index, e_idxT, e_idxL, e_mIx, e_ixST, e_ixSL, e_mtL, e_w, e_w1, e_w2, e_wE, e_wZ, e_itK, e_itT, e_itL, e_itT2, e_itL2, e_lc, e_for, e_wipe0, e_wipe, e_okI, e_okR, e_gSb, List.getElem?_cons_zero, List.getElem?_cons_succ, List.set_cons_zero, List.set_cons_succ, List.length_map]
  refine ⟨by simp; omega, ?_⟩
  have ez : [D.int 0] ++ l.map D.int = (0 :: l).map D.int := rfl
  rw [ez]
  try simp only [e_var, e_C, e_op, e_neg, e_isN, e_notN, e_and, e_or, e_not, e_test, e_tAnd, e_tOr, e_tNot, e_tYes, e_if, e_aNil, e_aCons, e_tup, e_lst, e_lstN, e_len0, e_len1, e_len2, e_len3, e_len4, e_len5, e_cb, e_on1, e_on2, e_onI, e_onB, e_onO, e_onO0, e_onOO, e_I0, e_I, e_add, e_addT, e_addS, e_addL, e_addLR, e_addRL, e_addRR, e_mul, e_mulL, e_mulT, e_rev, e_revT, e_ix, e_eqI, e_eqS, e_eqB, e_neI, e_neS, e_neB, e_ltI, e_chain, e_len, e_abs, e_2I, e_tuple1, e_tuple2, e_tuple3, e_listT, e_listN, e_allR, e_seqT, e_seqK, e_seqL, e_isi, e_isB, e_notB, e_truth, e_next, e_drop, e_ret, e_retN, e_ifS, e_set, e_asg, e_par, e_nm, e_gsN, e_gsC, e_gTpK, e_gTpL, e_sum, e_maxL, e_minL, e_maxDef, e_int, e_intB, e_aug, e_on3, e_par3, e_newK, e_getK, e_keyI, e_keyS, e_inK, e_ninK, e_putK, e_lenK, e_lstS, e_seqX, e_gTpT, e_oN, e_oS, e_sl, e_slT, e_slL, e_finT, e_finN, e_index, e_idxT, e_idxL, e_mIx, e_ixST, e_ixSL, e_mtL, e_w, e_w1, e_w2, e_wE, e_wZ, e_itK, e_itT, e_itL, e_itT2, e_itL2, e_lc, e_for, e_wipe0, e_wipe, e_okI, e_okR, e_gSb, List.getElem?_cons_zero, List.getElem?_cons_succ, List.set_cons_zero, List.set_cons_succ, intsD_ints]
  refine ⟨by simp, fun my hmy hly => ?_⟩
  have em : my = maxI l := by
    obtain ⟨ma, mb⟩ := maxI_spec l fun x hx => (fb x hx).1
    have z0 := hly 0 (by simp)
    rcases List.mem_cons.mp hmy with z | z
    · rcases ma with ⟨_, m0⟩ | m
      · omega
      · have := hly _ (List.mem_cons_of_mem _ m)
        have := maxI_nn (l := l) fun x hx => (fb x hx).1
        omega
    · have h1 := mb my z
      rcases ma with ⟨el, m0⟩ | m
      · rw [el] at z; cases z
      · have := hly _ (List.mem_cons_of_mem _ m)
        omega
  subst em
  try simp only [e_var, e_C, e_op, e_neg, e_isN, e_notN, e_and, e_or, e_not, e_test, e_tAnd, e_tOr, e_tNot, e_tYes, e_if, e_aNil, e_aCons, e_tup, e_lst, e_lstN, e_len0, e_len1, e_len2, e_len3, e_len4, e_len5, e_cb, e_on1, e_on2, e_onI, e_onB, e_onO, e_onO0, e_onOO, e_I0, e_I, e_add, e_addT, e_addS, e_addL, e_addLR, e_addRL, e_addRR, e_mul, e_mulL, e_mulT, e_rev, e_revT, e_ix, e_eqI, e_eqS, e_eqB, e_neI, e_neS, e_neB, e_ltI, e_chain, e_len, e_abs, e_2I, e_tuple1, e_tuple2, e_tuple3, e_listT, e_listN, e_allR, e_seqT, e_seqK, e_seqL, e_isi, e_isB, e_notB, e_truth, e_next, e_drop, e_ret, e_retN, e_ifS, e_set, e_asg, e_par, e_nm, e_gsN, e_gsC, e_gTpK, e_gTpL, e_sum, e_maxL, e_minL, e_maxDef, e_int, e_intB, e_aug, e_on3, e_par3, e_newK, e_getK, e_keyI, e_keyS, e_inK, e_ninK, e_putK, e_lenK, e_lstS, e_seqX, e_gTpT, e_oN, e_oS, e_sl, e_slT, e_slL, e_finT, e_finN, e_index, e_idxT, e_idxL, e_mIx, e_ixST, e_ixSL, e_mtL, e_w, e_w1, e_w2, e_wE, e_wZ, e_itK, e_itT, e_itL, e_itT2, e_itL2, e_lc, e_for, e_wipe0, e_wipe, e_okI, e_okR, e_gSb, List.getElem?_cons_zero, List.getElem?_cons_succ, List.set_cons_zero, List.set_cons_succ, List.length_map]
  refine ⟨by omega, ?_⟩
  refine sq_comp (by simp) l (fun x hx => by have := fb x hx; omega) ?_
  refine fin_lst ?_
  try simp only [e_var, e_C, e_op, e_neg, e_isN, e_notN, e_and, e_or, e_not, e_test, e_tAnd, e_tOr, e_tNot, e_tYes, e_if, e_aNil, e_aCons, e_tup, e_lst, e_lstN, e_len0, e_len1, e_len2, e_len3, e_len4, e_len5, e_cb, e_on1, e_on2, e_onI, e_onB, e_onO, e_onO0, e_onOO, e_I0, e_I, e_add, e_addT, e_addS, e_addL, e_addLR, e_addRL, e_addRR, e_mul, e_mulL, e_mulT, e_rev, e_revT, e_ix, e_eqI, e_eqS, e_eqB, e_neI, e_neS, e_neB, e_ltI, e_chain, e_len, e_abs, e_2I, e_tuple1, e_tuple2, e_tuple3, e_listT, e_listN, e_allR, e_seqT, e_seqK, e_seqL, e_isi, e_isB, e_notB, e_truth, e_next, e_drop, e_ret, e_retN, e_ifS, e_set, e_asg, e_par, e_nm, e_gsN, e_gsC, e_gTpK, e_gTpL, e_sum, e_maxL, e_minL, e_maxDef, e_int, e_intB, e_aug, e_on3, e_par3, e_newK, e_getK, e_keyI, e_keyS, e_inK, e_ninK, e_putK, e_lenK, e_lstS, e_seqX, e_gTpT, e_oN, e_oS, e_sl, e_slT, e_slL, e_finT, e_finN, e_index, e_idxT, e_idxL, e_mIx, e_ixST, e_ixSL, e_mtL, e_w, e_w1, e_w2, e_wE, e_wZ, e_itK, e_itT, e_itL, e_itT2, e_itL2, e_lc, e_for, e_wipe0, e_wipe, e_okI, e_okR, e_gSb, List.getElem?_cons_zero, List.getElem?_cons_succ, List.set_cons_zero, List.set_cons_succ, intsD_ints, ML.sum_sumL]
  have z := rt_drop (st := st) (st1 := st) (junk := []) (d := .tup [.int (maxI l), .int (ML.sumL (l.map fun x => x * x))]) rfl rfl (fun i o h => .inl h) q
  rw [List.append_nil] at z
  exact z
def g_ways : DRs := fun ds st Q => ∃ (m : Nat) (tk : List Int), ds = [.int (m : Nat), rowD tk] ∧ 1 ≤ m ∧ m ≤ 6 ∧ tk.length ≤ 6 ∧ ∀ W : List (List Int), (∀ w ∈ W, w.length = m ∧ w.Nodup ∧ ∀ x ∈ w, x ∈ tk) → W.length ≤ 100000 → Q (.lst (W.map rowD)) st
theorem ar_ways (ds : List D) (st : DSt) (Q : DK) (h : g_ways ds st Q) : ds.length = 2 := by
  obtain ⟨_, _, rfl, _⟩ := h
  rfl
theorem pow6 : ∀ j : Nat, j ≤ 6 → 6 ^ j ≤ 46656 := by decide
theorem clos_rowsS (n : Nat) : ∀ W : List (List Int), clos n (W.map rowD) = true
  | [] => rfl
  | w :: W => by
    rw [List.map_cons]
    simp only [clos, clos_rowsS n W, Bool.and_true]
    show clo n (.tup (w.map D.int)) = true
    simp only [clo]
    exact clos_ints _ _
set_option maxHeartbeats 4000000 in
theorem sem_ways (ds : List D) (st : DSt) (Q : DK) (h : g_ways ds st Q) : F__law_all_ways { nx := fun _ st' => Rt st Q .non st', rt := Rt st Q } (startD 7 ds) st := by
  obtain ⟨m, tk, rfl, m1, m6, t6, q⟩ := h
  have st7 : startD 7 [D.int (m : Nat), rowD tk] = [some (.int (m : Nat)), some (rowD tk), none, none, none, none, none] := rfl
  have big : (2000000 : Nat) ≤ sizeLine := by decide
  simp only [F__law_all_ways, st7]
  try dsimp only
  rw [e_seq]
  try simp only [e_var, e_C, e_op, e_neg, e_isN, e_notN, e_and, e_or, e_not, e_test, e_tAnd, e_tOr, e_tNot, e_tYes, e_if, e_aNil, e_aCons, e_tup, e_lst, e_lstN, e_len0, e_len1, e_len2, e_len3, e_len4, e_len5, e_cb, e_on1, e_on2, e_onI, e_onB, e_onO, e_onO0, e_onOO, e_I0, e_I, e_add, e_addT, e_addS, e_addL, e_addLR, e_addRL, e_addRR, e_mul, e_mulL, e_mulT, e_rev, e_revT, e_ix, e_eqI, e_eqS, e_eqB, e_neI, e_neS, e_neB, e_ltI, e_chain, e_len, e_abs, e_2I, e_tuple1, e_tuple2, e_tuple3, e_listT, e_listN, e_allR, e_seqT, e_seqK, e_seqL, e_isi, e_isB, e_notB, e_truth, e_next, e_drop, e_ret, e_retN, e_ifS, e_set, e_asg, e_par, e_nm, e_gsN, e_gsC, e_gTpK, e_gTpL, e_sum, e_maxL, e_minL, e_maxDef, e_int, e_intB, e_aug, e_on3, e_par3, e_newK, e_getK, e_keyI, e_keyS, e_inK, e_ninK, e_putK, e_lenK, e_lstS, e_seqX, e_gTpT, e_oN, e_oS, e_sl, e_slT, e_slL, e_finT, e_finN, e_index, e_idxT, e_idxL, e_mIx, e_ixST, e_ixSL, e_mtL, e_w, e_w1, e_w2, e_wE, e_wZ, e_itK, e_itT, e_itL, e_itT2, e_itL2, e_lc, e_for, e_wipe0, e_wipe, e_okI, e_okR, e_gSb, List.getElem?_cons_zero, List.getElem?_cons_succ, List.set_cons_zero, List.set_cons_succ]
  try dsimp only
  rw [e_seq]
  try simp only [e_var, e_C, e_op, e_neg, e_isN, e_notN, e_and, e_or, e_not, e_test, e_tAnd, e_tOr, e_tNot, e_tYes, e_if, e_aNil, e_aCons, e_tup, e_lst, e_lstN, e_len0, e_len1, e_len2, e_len3, e_len4, e_len5, e_cb, e_on1, e_on2, e_onI, e_onB, e_onO, e_onO0, e_onOO, e_I0, e_I, e_add, e_addT, e_addS, e_addL, e_addLR, e_addRL, e_addRR, e_mul, e_mulL, e_mulT, e_rev, e_revT, e_ix, e_eqI, e_eqS, e_eqB, e_neI, e_neS, e_neB, e_ltI, e_chain, e_len, e_abs, e_2I, e_tuple1, e_tuple2, e_tuple3, e_listT, e_listN, e_allR, e_seqT, e_seqK, e_seqL, e_isi, e_isB, e_notB, e_truth, e_next, e_drop, e_ret, e_retN, e_ifS, e_set, e_asg, e_par, e_nm, e_gsN, e_gsC, e_gTpK, e_gTpL, e_sum, e_maxL, e_minL, e_maxDef, e_int, e_intB, e_aug, e_on3, e_par3, e_newK, e_getK, e_keyI, e_keyS, e_inK, e_ninK, e_putK, e_lenK, e_lstS, e_seqX, e_gTpT, e_oN, e_oS, e_sl, e_slT, e_slL, e_finT, e_finN, e_index, e_idxT, e_idxL, e_mIx, e_ixST, e_ixSL, e_mtL, e_w, e_w1, e_w2, e_wE, e_wZ, e_itK, e_itT, e_itL, e_itT2, e_itL2, e_lc, e_for, e_wipe0, e_wipe, e_okI, e_okR, e_gSb, List.getElem?_cons_zero, List.getElem?_cons_succ, List.set_cons_zero, List.set_cons_succ, Int.toNat_natCast]
  refine ⟨⟨by omega, by omega⟩, ?_⟩
  refine for_inv (fun left r st' => ∃ (t : Nat) (W : List (List Int)) (x : D) (x3 x4 x5 x6 : Option D) (jk : List O), left = (rgD 0 m).drop t ∧ t ≤ m ∧ (∀ w ∈ W, w.length = t ∧ w.Nodup ∧ ∀ x ∈ w, x ∈ tk) ∧ W.length ≤ 6 ^ t ∧ st' = st ++ jk ∧ (x = .lst (W.map rowD) ∨ ∃ i, x = .ref (st.length + i) ∧ jk[i]? = some (.lst (W.map rowD))) ∧ (0 < t → ∃ i, x = .ref (st.length + i) ∧ jk[i]? = some (.lst (W.map rowD))) ∧ r = [some (.int (m : Nat)), some (rowD tk), some x, x3, x4, x5, x6]) ?_ ?_ _ _ _ ⟨0, [[]], _, _, _, _, _, [], rfl, Nat.zero_le _, fun w hw => ?_, by simp, (List.append_nil st).symm, .inl rfl, fun z => absurd z (by omega), rfl⟩
  · rintro d left r st' N hN ⟨t, W, x, x3, x4, x5, x6, jk, el, tl, al, wl, rfl, hx, hx1, rfl⟩
    obtain ⟨et, lt2, e3⟩ := drop_cons el.symm
    obtain ⟨ltt, rfl⟩ := rgD_get et
    have wb := pow6 t (by omega)
    have wk : Wk1 (st ++ jk ++ [O.lst []]) x (W.map rowD) := by
      rcases hx with rfl | ⟨i, rfl, e⟩
      · exact .inl rfl
      · refine .inr ⟨_, rfl, ?_⟩
        have li := (List.getElem?_eq_some_iff.mp e).1
        rw [List.append_assoc, List.getElem?_append_right (by omega), Nat.add_sub_cancel_left, List.getElem?_append_left li]
        exact e
    have ownL : ∀ zs : List D, (st ++ jk ++ [O.lst zs])[(st ++ jk).length]? = some (.lst zs) := fun zs => by rw [List.getElem?_append_right (Nat.le_refl _), Nat.sub_self]; rfl
    have setL : ∀ zs ys : List D, (st ++ jk ++ [O.lst zs]).set (st ++ jk).length (.lst ys) = st ++ jk ++ [O.lst ys] := fun zs ys => by rw [List.set_append_right _ _ (Nat.le_refl _), Nat.sub_self]; rfl
    have keepx : ∀ ys : List D, Wk1 (st ++ jk ++ [O.lst ys]) x (W.map rowD) := fun ys => by
      rcases hx with rfl | ⟨i, rfl, e⟩
      · exact .inl rfl
      · refine .inr ⟨_, rfl, ?_⟩
        have li := (List.getElem?_eq_some_iff.mp e).1
        rw [List.append_assoc, List.getElem?_append_right (by omega), Nat.add_sub_cancel_left, List.getElem?_append_left li]
        exact e
    try simp only [e_var, e_C, e_op, e_neg, e_isN, e_notN, e_and, e_or, e_not, e_test, e_tAnd, e_tOr, e_tNot, e_tYes, e_if, e_aNil, e_aCons, e_tup, e_lst, e_lstN, e_len0, e_len1, e_len2, e_len3, e_len4, e_len5, e_cb, e_on1, e_on2, e_onI, e_onB, e_onO, e_onO0, e_onOO, e_I0, e_I, e_add, e_addT, e_addS, e_addL, e_addLR, e_addRL, e_addRR, e_mul, e_mulL, e_mulT, e_rev, e_revT, e_ix, e_eqI, e_eqS, e_eqB, e_neI, e_neS, e_neB, e_ltI, e_chain, e_len, e_abs, e_2I, e_tuple1, e_tuple2, e_tuple3, e_listT, e_listN, e_allR, e_seqT, e_seqK, e_seqL, e_isi, e_isB, e_notB, e_truth, e_next, e_drop, e_ret, e_retN, e_ifS, e_set, e_asg, e_par, e_nm, e_gsN, e_gsC, e_gTpK, e_gTpL, e_sum, e_maxL, e_minL, e_maxDef, e_int, e_intB, e_aug, e_on3, e_par3, e_newK, e_getK, e_keyI, e_keyS, e_inK, e_ninK, e_putK, e_lenK, e_lstS, e_seqX, e_gTpT, e_oN, e_oS, e_sl, e_slT, e_slL, e_finT, e_finN, e_index, e_idxT, e_idxL, e_mIx, e_ixST, e_ixSL, e_mtL, e_w, e_w1, e_w2, e_wE, e_wZ, e_itK, e_itT, e_itL, e_itT2, e_itL2, e_lc, e_for, e_wipe0, e_wipe, e_okI, e_okR, e_gSb, List.getElem?_cons_zero, List.getElem?_cons_succ, List.set_cons_zero, List.set_cons_succ]
    try dsimp only
    rw [e_seq]
    try simp only [e_var, e_C, e_op, e_neg, e_isN, e_notN, e_and, e_or, e_not, e_test, e_tAnd, e_tOr, e_tNot, e_tYes, e_if, e_aNil, e_aCons, e_tup, e_lst, e_lstN, e_len0, e_len1, e_len2, e_len3, e_len4, e_len5, e_cb, e_on1, e_on2, e_onI, e_onB, e_onO, e_onO0, e_onOO, e_I0, e_I, e_add, e_addT, e_addS, e_addL, e_addLR, e_addRL, e_addRR, e_mul, e_mulL, e_mulT, e_rev, e_revT, e_ix, e_eqI, e_eqS, e_eqB, e_neI, e_neS, e_neB, e_ltI, e_chain, e_len, e_abs, e_2I, e_tuple1, e_tuple2, e_tuple3, e_listT, e_listN, e_allR, e_seqT, e_seqK, e_seqL, e_isi, e_isB, e_notB, e_truth, e_next, e_drop, e_ret, e_retN, e_ifS, e_set, e_asg, e_par, e_nm, e_gsN, e_gsC, e_gTpK, e_gTpL, e_sum, e_maxL, e_minL, e_maxDef, e_int, e_intB, e_aug, e_on3, e_par3, e_newK, e_getK, e_keyI, e_keyS, e_inK, e_ninK, e_putK, e_lenK, e_lstS, e_seqX, e_gTpT, e_oN, e_oS, e_sl, e_slT, e_slL, e_finT, e_finN, e_index, e_idxT, e_idxL, e_mIx, e_ixST, e_ixSL, e_mtL, e_w, e_w1, e_w2, e_wE, e_wZ, e_itK, e_itT, e_itL, e_itT2, e_itL2, e_lc, e_for, e_wipe0, e_wipe, e_okI, e_okR, e_gSb, List.getElem?_cons_zero, List.getElem?_cons_succ, List.set_cons_zero, List.set_cons_succ]
    obtain ⟨src, e1, ok⟩ := wk.it
    try dsimp only
    rw [e_seq]
    try simp only [e_var, e_C, e_op, e_neg, e_isN, e_notN, e_and, e_or, e_not, e_test, e_tAnd, e_tOr, e_tNot, e_tYes, e_if, e_aNil, e_aCons, e_tup, e_lst, e_lstN, e_len0, e_len1, e_len2, e_len3, e_len4, e_len5, e_cb, e_on1, e_on2, e_onI, e_onB, e_onO, e_onO0, e_onOO, e_I0, e_I, e_add, e_addT, e_addS, e_addL, e_addLR, e_addRL, e_addRR, e_mul, e_mulL, e_mulT, e_rev, e_revT, e_ix, e_eqI, e_eqS, e_eqB, e_neI, e_neS, e_neB, e_ltI, e_chain, e_len, e_abs, e_2I, e_tuple1, e_tuple2, e_tuple3, e_listT, e_listN, e_allR, e_seqT, e_seqK, e_seqL, e_isi, e_isB, e_notB, e_truth, e_next, e_drop, e_ret, e_retN, e_ifS, e_set, e_asg, e_par, e_nm, e_gsN, e_gsC, e_gTpK, e_gTpL, e_sum, e_maxL, e_minL, e_maxDef, e_int, e_intB, e_aug, e_on3, e_par3, e_newK, e_getK, e_keyI, e_keyS, e_inK, e_ninK, e_putK, e_lenK, e_lstS, e_seqX, e_gTpT, e_oN, e_oS, e_sl, e_slT, e_slL, e_finT, e_finN, e_index, e_idxT, e_idxL, e_mIx, e_ixST, e_ixSL, e_mtL, e_w, e_w1, e_w2, e_wE, e_wZ, e_itK, e_itT, e_itL, e_itT2, e_itL2, e_lc, e_for, e_wipe0, e_wipe, e_okI, e_okR, e_gSb, List.getElem?_cons_zero, List.getElem?_cons_succ, List.set_cons_zero, List.set_cons_succ, e1]
    have okA : ∀ ys : List D, okS ⟨W.map rowD, src⟩ (st ++ jk ++ [O.lst ys]) := fun ys => by
      obtain ⟨src2, e2, ok2⟩ := (keepx ys).it
      rcases hx with rfl | ⟨i, rfl, e⟩
      · cases e1; exact .inl rfl
      · rcases keepx [] with z | ⟨qq, z, zz⟩
        · cases z
        · cases z
          rw [itL_ref zz] at e1
          cases e1
          rcases keepx ys with z | ⟨q2, z, zz2⟩
          · cases z
          · cases z
            exact .inr ⟨_, _, rfl, zz2⟩
    refine for_list rowD (fun rest r st' => ∃ (dn : List (List Int)) (V : List (List Int)) (x5 x6 : Option D), W = dn ++ rest ∧ (∀ w ∈ V, w.length = t + 1 ∧ w.Nodup ∧ ∀ x ∈ w, x ∈ tk) ∧ V.length ≤ dn.length * 6 ∧ r = [some (.int (m : Nat)), some (rowD tk), some x, some (.int (0 + (t : Nat))), some (.ref (st ++ jk).length), x5, x6] ∧ st' = st ++ jk ++ [O.lst (V.map rowD)]) ?_ ?_ W _ _ ⟨[], [], _, _, rfl, fun w hw => (by cases hw), by simp, rfl, rfl⟩
    · rintro w rest r st' N2 hN2 ⟨dn, V, x5, x6, eW, av, vl, rfl, rfl⟩
      refine okI_in (okA _) ?_
      have wm : w ∈ W := by rw [eW]; simp
      obtain ⟨w1, w2, w3⟩ := al w wm
      have dl : dn.length < W.length := by rw [eW]; simp
      try simp only [e_var, e_C, e_op, e_neg, e_isN, e_notN, e_and, e_or, e_not, e_test, e_tAnd, e_tOr, e_tNot, e_tYes, e_if, e_aNil, e_aCons, e_tup, e_lst, e_lstN, e_len0, e_len1, e_len2, e_len3, e_len4, e_len5, e_cb, e_on1, e_on2, e_onI, e_onB, e_onO, e_onO0, e_onOO, e_I0, e_I, e_add, e_addT, e_addS, e_addL, e_addLR, e_addRL, e_addRR, e_mul, e_mulL, e_mulT, e_rev, e_revT, e_ix, e_eqI, e_eqS, e_eqB, e_neI, e_neS, e_neB, e_ltI, e_chain, e_len, e_abs, e_2I, e_tuple1, e_tuple2, e_tuple3, e_listT, e_listN, e_allR, e_seqT, e_seqK, e_seqL, e_isi, e_isB, e_notB, e_truth, e_next, e_drop, e_ret, e_retN, e_ifS, e_set, e_asg, e_par, e_nm, e_gsN, e_gsC, e_gTpK, e_gTpL, e_sum, e_maxL, e_minL, e_maxDef, e_int, e_intB, e_aug, e_on3, e_par3, e_newK, e_getK, e_keyI, e_keyS, e_inK, e_ninK, e_putK, e_lenK, e_lstS, e_seqX, e_gTpT, e_oN, e_oS, e_sl, e_slT, e_slL, e_finT, e_finN, e_index, e_idxT, e_idxL, e_mIx, e_ixST, e_ixSL, e_mtL, e_w, e_w1, e_w2, e_wE, e_wZ, e_itK, e_itT, e_itL, e_itT2, e_itL2, e_lc, e_for, e_wipe0, e_wipe, e_okI, e_okR, e_gSb, List.getElem?_cons_zero, List.getElem?_cons_succ, List.set_cons_zero, List.set_cons_succ]
      refine ⟨by unfold LstD; simp only [ownL], ?_⟩
      have itr : itOf (st ++ jk ++ [O.lst (V.map rowD)]) (rowD tk) = some ⟨tk.map D.int, none⟩ := rfl
      try simp only [e_var, e_C, e_op, e_neg, e_isN, e_notN, e_and, e_or, e_not, e_test, e_tAnd, e_tOr, e_tNot, e_tYes, e_if, e_aNil, e_aCons, e_tup, e_lst, e_lstN, e_len0, e_len1, e_len2, e_len3, e_len4, e_len5, e_cb, e_on1, e_on2, e_onI, e_onB, e_onO, e_onO0, e_onOO, e_I0, e_I, e_add, e_addT, e_addS, e_addL, e_addLR, e_addRL, e_addRR, e_mul, e_mulL, e_mulT, e_rev, e_revT, e_ix, e_eqI, e_eqS, e_eqB, e_neI, e_neS, e_neB, e_ltI, e_chain, e_len, e_abs, e_2I, e_tuple1, e_tuple2, e_tuple3, e_listT, e_listN, e_allR, e_seqT, e_seqK, e_seqL, e_isi, e_isB, e_notB, e_truth, e_next, e_drop, e_ret, e_retN, e_ifS, e_set, e_asg, e_par, e_nm, e_gsN, e_gsC, e_gTpK, e_gTpL, e_sum, e_maxL, e_minL, e_maxDef, e_int, e_intB, e_aug, e_on3, e_par3, e_newK, e_getK, e_keyI, e_keyS, e_inK, e_ninK, e_putK, e_lenK, e_lstS, e_seqX, e_gTpT, e_oN, e_oS, e_sl, e_slT, e_slL, e_finT, e_finN, e_index, e_idxT, e_idxL, e_mIx, e_ixST, e_ixSL, e_mtL, e_w, e_w1, e_w2, e_wE, e_wZ, e_itK, e_itT, e_itL, e_itT2, e_itL2, e_lc, e_for, e_wipe0, e_wipe, e_okI, e_okR, e_gSb, List.getElem?_cons_zero, List.getElem?_cons_succ, List.set_cons_zero, List.set_cons_succ, itr, List.length_map]
      refine ⟨by omega, ?_⟩
      refine compS (.inl rfl) D.int (fun s => !decide (s ∈ w)) (fun s => rowD (w ++ [s])) tk [] (fun s hs' Q' k => k _ (fun Q2 q2 => ?_) fun _ Q2 q2 => ?_) ?_
      · try simp only [e_var, e_C, e_op, e_neg, e_isN, e_notN, e_and, e_or, e_not, e_test, e_tAnd, e_tOr, e_tNot, e_tYes, e_if, e_aNil, e_aCons, e_tup, e_lst, e_lstN, e_len0, e_len1, e_len2, e_len3, e_len4, e_len5, e_cb, e_on1, e_on2, e_onI, e_onB, e_onO, e_onO0, e_onOO, e_I0, e_I, e_add, e_addT, e_addS, e_addL, e_addLR, e_addRL, e_addRR, e_mul, e_mulL, e_mulT, e_rev, e_revT, e_ix, e_eqI, e_eqS, e_eqB, e_neI, e_neS, e_neB, e_ltI, e_chain, e_len, e_abs, e_2I, e_tuple1, e_tuple2, e_tuple3, e_listT, e_listN, e_allR, e_seqT, e_seqK, e_seqL, e_isi, e_isB, e_notB, e_truth, e_next, e_drop, e_ret, e_retN, e_ifS, e_set, e_asg, e_par, e_nm, e_gsN, e_gsC, e_gTpK, e_gTpL, e_sum, e_maxL, e_minL, e_maxDef, e_int, e_intB, e_aug, e_on3, e_par3, e_newK, e_getK, e_keyI, e_keyS, e_inK, e_ninK, e_putK, e_lenK, e_lstS, e_seqX, e_gTpT, e_oN, e_oS, e_sl, e_slT, e_slL, e_finT, e_finN, e_index, e_idxT, e_idxL, e_mIx, e_ixST, e_ixSL, e_mtL, e_w, e_w1, e_w2, e_wE, e_wZ, e_itK, e_itT, e_itL, e_itT2, e_itL2, e_lc, e_for, e_wipe0, e_wipe, e_okI, e_okR, e_gSb, List.getElem?_cons_zero, List.getElem?_cons_succ, List.set_cons_zero, List.set_cons_succ]
        exact nin_seq (ns := w) rfl q2
      · try simp only [e_var, e_C, e_op, e_neg, e_isN, e_notN, e_and, e_or, e_not, e_test, e_tAnd, e_tOr, e_tNot, e_tYes, e_if, e_aNil, e_aCons, e_tup, e_lst, e_lstN, e_len0, e_len1, e_len2, e_len3, e_len4, e_len5, e_cb, e_on1, e_on2, e_onI, e_onB, e_onO, e_onO0, e_onOO, e_I0, e_I, e_add, e_addT, e_addS, e_addL, e_addLR, e_addRL, e_addRR, e_mul, e_mulL, e_mulT, e_rev, e_revT, e_ix, e_eqI, e_eqS, e_eqB, e_neI, e_neS, e_neB, e_ltI, e_chain, e_len, e_abs, e_2I, e_tuple1, e_tuple2, e_tuple3, e_listT, e_listN, e_allR, e_seqT, e_seqK, e_seqL, e_isi, e_isB, e_notB, e_truth, e_next, e_drop, e_ret, e_retN, e_ifS, e_set, e_asg, e_par, e_nm, e_gsN, e_gsC, e_gTpK, e_gTpL, e_sum, e_maxL, e_minL, e_maxDef, e_int, e_intB, e_aug, e_on3, e_par3, e_newK, e_getK, e_keyI, e_keyS, e_inK, e_ninK, e_putK, e_lenK, e_lstS, e_seqX, e_gTpT, e_oN, e_oS, e_sl, e_slT, e_slL, e_finT, e_finN, e_index, e_idxT, e_idxL, e_mIx, e_ixST, e_ixSL, e_mtL, e_w, e_w1, e_w2, e_wE, e_wZ, e_itK, e_itT, e_itL, e_itT2, e_itL2, e_lc, e_for, e_wipe0, e_wipe, e_okI, e_okR, e_gSb, List.getElem?_cons_zero, List.getElem?_cons_succ, List.set_cons_zero, List.set_cons_succ]
        unfold rowD
        try simp only [e_var, e_C, e_op, e_neg, e_isN, e_notN, e_and, e_or, e_not, e_test, e_tAnd, e_tOr, e_tNot, e_tYes, e_if, e_aNil, e_aCons, e_tup, e_lst, e_lstN, e_len0, e_len1, e_len2, e_len3, e_len4, e_len5, e_cb, e_on1, e_on2, e_onI, e_onB, e_onO, e_onO0, e_onOO, e_I0, e_I, e_add, e_addT, e_addS, e_addL, e_addLR, e_addRL, e_addRR, e_mul, e_mulL, e_mulT, e_rev, e_revT, e_ix, e_eqI, e_eqS, e_eqB, e_neI, e_neS, e_neB, e_ltI, e_chain, e_len, e_abs, e_2I, e_tuple1, e_tuple2, e_tuple3, e_listT, e_listN, e_allR, e_seqT, e_seqK, e_seqL, e_isi, e_isB, e_notB, e_truth, e_next, e_drop, e_ret, e_retN, e_ifS, e_set, e_asg, e_par, e_nm, e_gsN, e_gsC, e_gTpK, e_gTpL, e_sum, e_maxL, e_minL, e_maxDef, e_int, e_intB, e_aug, e_on3, e_par3, e_newK, e_getK, e_keyI, e_keyS, e_inK, e_ninK, e_putK, e_lenK, e_lstS, e_seqX, e_gTpT, e_oN, e_oS, e_sl, e_slT, e_slL, e_finT, e_finN, e_index, e_idxT, e_idxL, e_mIx, e_ixST, e_ixSL, e_mtL, e_w, e_w1, e_w2, e_wE, e_wZ, e_itK, e_itT, e_itL, e_itT2, e_itL2, e_lc, e_for, e_wipe0, e_wipe, e_okI, e_okR, e_gSb, List.getElem?_cons_zero, List.getElem?_cons_succ, List.set_cons_zero, List.set_cons_succ]
        refine ⟨by simp; omega, ?_⟩
        have e2 : w.map D.int ++ [D.int s] = (w ++ [s]).map D.int := by rw [List.map_append]; rfl
        rw [e2]
        exact q2
      refine fin_lst ?_
      rw [List.nil_append]
      have fl : (tk.filter fun s => !decide (s ∈ w)).length ≤ 6 := Nat.le_trans (List.length_filter_le _ _) t6
      refine extend_ref (ownL _) (by simp only [List.length_map]; omega) ?_
      rw [setL]
      have e2 : V.map rowD ++ (tk.filter fun s => !decide (s ∈ w)).map (fun s => rowD (w ++ [s])) = (V ++ (tk.filter fun s => !decide (s ∈ w)).map fun s => w ++ [s]).map rowD := by rw [List.map_append, List.map_map]; rfl
      rw [e2]
      refine hN2 _ _ (.inl ⟨dn ++ [w], V ++ (tk.filter fun s => !decide (s ∈ w)).map fun s => w ++ [s], _, _, by rw [eW]; simp, fun v hv => ?_, by simp only [List.length_append, List.length_map, List.length_singleton]; omega, rfl, rfl⟩)
      rcases List.mem_append.mp hv with z | z
      · exact av v z
      · obtain ⟨s, hs', rfl⟩ := List.mem_map.mp z
        obtain ⟨sm, sn⟩ := List.mem_filter.mp hs'
        have sn' : s ∉ w := by simpa using sn
        refine ⟨by simp [w1], ?_, fun y hy => ?_⟩
        · rw [List.nodup_append]
          exact ⟨w2, by simp, fun a ha b hb => by rw [List.mem_singleton.mp hb]; exact fun z => sn' (z ▸ ha)⟩
        · rcases List.mem_append.mp hy with z | z
          · exact w3 y z
          · rw [List.mem_singleton.mp z]; exact sm
    · rintro r st' ⟨dn, V, x5, x6, eW, av, vl, rfl, rfl⟩
      rw [List.append_nil] at eW
      subst eW
      refine okI_in (okA _) ?_
      try simp only [e_var, e_C, e_op, e_neg, e_isN, e_notN, e_and, e_or, e_not, e_test, e_tAnd, e_tOr, e_tNot, e_tYes, e_if, e_aNil, e_aCons, e_tup, e_lst, e_lstN, e_len0, e_len1, e_len2, e_len3, e_len4, e_len5, e_cb, e_on1, e_on2, e_onI, e_onB, e_onO, e_onO0, e_onOO, e_I0, e_I, e_add, e_addT, e_addS, e_addL, e_addLR, e_addRL, e_addRR, e_mul, e_mulL, e_mulT, e_rev, e_revT, e_ix, e_eqI, e_eqS, e_eqB, e_neI, e_neS, e_neB, e_ltI, e_chain, e_len, e_abs, e_2I, e_tuple1, e_tuple2, e_tuple3, e_listT, e_listN, e_allR, e_seqT, e_seqK, e_seqL, e_isi, e_isB, e_notB, e_truth, e_next, e_drop, e_ret, e_retN, e_ifS, e_set, e_asg, e_par, e_nm, e_gsN, e_gsC, e_gTpK, e_gTpL, e_sum, e_maxL, e_minL, e_maxDef, e_int, e_intB, e_aug, e_on3, e_par3, e_newK, e_getK, e_keyI, e_keyS, e_inK, e_ninK, e_putK, e_lenK, e_lstS, e_seqX, e_gTpT, e_oN, e_oS, e_sl, e_slT, e_slL, e_finT, e_finN, e_index, e_idxT, e_idxL, e_mIx, e_ixST, e_ixSL, e_mtL, e_w, e_w1, e_w2, e_wE, e_wZ, e_itK, e_itT, e_itL, e_itT2, e_itL2, e_lc, e_for, e_wipe0, e_wipe, e_okI, e_okR, e_gSb, List.getElem?_cons_zero, List.getElem?_cons_succ, List.set_cons_zero, List.set_cons_succ]
      have ow : (jk ++ [O.lst (V.map rowD)])[jk.length]? = some (.lst (V.map rowD)) := by rw [List.getElem?_append_right (Nat.le_refl _), Nat.sub_self]; rfl
      have er : (st ++ jk).length = st.length + jk.length := List.length_append
      refine hN _ _ (.inl ⟨t + 1, V, .ref (st ++ jk).length, _, _, _, _, jk ++ [O.lst (V.map rowD)], e3.symm, by omega, av, ?_, by rw [List.append_assoc], .inr ⟨jk.length, by rw [er], ow⟩, fun _ => ⟨jk.length, by rw [er], ow⟩, rfl⟩)
      rw [Nat.pow_succ]
      exact Nat.le_trans vl (Nat.mul_le_mul_right 6 wl)
  · rintro r st' ⟨t, W, x, x3, x4, x5, x6, jk, el, tl, al, wl, rfl, hx, hx1, rfl⟩
    have et : t = m := by
      have := congrArg List.length el
      rw [List.length_drop, rgD_length] at this
      simp at this
      omega
    subst et
    obtain ⟨i, rfl, e⟩ := hx1 (by omega)
    try simp only [e_var, e_C, e_op, e_neg, e_isN, e_notN, e_and, e_or, e_not, e_test, e_tAnd, e_tOr, e_tNot, e_tYes, e_if, e_aNil, e_aCons, e_tup, e_lst, e_lstN, e_len0, e_len1, e_len2, e_len3, e_len4, e_len5, e_cb, e_on1, e_on2, e_onI, e_onB, e_onO, e_onO0, e_onOO, e_I0, e_I, e_add, e_addT, e_addS, e_addL, e_addLR, e_addRL, e_addRR, e_mul, e_mulL, e_mulT, e_rev, e_revT, e_ix, e_eqI, e_eqS, e_eqB, e_neI, e_neS, e_neB, e_ltI, e_chain, e_len, e_abs, e_2I, e_tuple1, e_tuple2, e_tuple3, e_listT, e_listN, e_allR, e_seqT, e_seqK, e_seqL, e_isi, e_isB, e_notB, e_truth, e_next, e_drop, e_ret, e_retN, e_ifS, e_set, e_asg, e_par, e_nm, e_gsN, e_gsC, e_gTpK, e_gTpL, e_sum, e_maxL, e_minL, e_maxDef, e_int, e_intB, e_aug, e_on3, e_par3, e_newK, e_getK, e_keyI, e_keyS, e_inK, e_ninK, e_putK, e_lenK, e_lstS, e_seqX, e_gTpT, e_oN, e_oS, e_sl, e_slT, e_slL, e_finT, e_finN, e_index, e_idxT, e_idxL, e_mIx, e_ixST, e_ixSL, e_mtL, e_w, e_w1, e_w2, e_wE, e_wZ, e_itK, e_itT, e_itL, e_itT2, e_itL2, e_lc, e_for, e_wipe0, e_wipe, e_okI, e_okR, e_gSb, List.getElem?_cons_zero, List.getElem?_cons_succ, List.set_cons_zero, List.set_cons_succ]
    have wb := pow6 t m6
    exact rt_list (st1 := st) rfl (Nat.le_add_right _ _) (by rw [List.getElem?_append_right (by omega), Nat.add_sub_cancel_left]; exact e) (clos_rowsS _ _) (fun i o h => .inl h) (q W al (by omega))
  · rw [List.mem_singleton.mp hw]
    exact ⟨rfl, .nil, fun x hx => by cases hx⟩
end DL
namespace DL
open PySem PySem.Spec PyProof.Rows L2 LamX PySem.W SL
def encT (p : Nat × Nat) : D := .tup [.int (p.1 : Nat), .int (p.2 : Nat)]
theorem f2_encT : ∀ ps : List (Nat × Nat), F2 ps (ps.map encT)
  | [] => .nil
  | p :: ps => .cons (.inl rfl) (f2_encT ps)
theorem farL_pairs (n : Nat) (hs : List Nat) (sl : List Int) : farL n hs (pairsL n sl) = farI n hs sl := by
  unfold farL pairsL farI
  rw [List.map_map]
  rfl
theorem cnt_hs (hs : List Nat) (s : Nat) : (hI hs).count (s : Int) = ((List.range hs.length).filter fun k => decide (hm hs k = s)).length := by
  have e : hs = (List.range hs.length).map (hm hs) := by
    apply List.ext_getElem (by simp)
    intro i h1 h2
    unfold hm
    simp [h1]
  have e1 : (hI hs).count (s : Int) = hs.count s := by
    unfold hI
    rw [List.count_eq_countP, List.count_eq_countP, List.countP_map]
    refine List.countP_congr fun x _ => ?_
    simp only [Function.comp, beq_iff_eq]
    omega
  rw [e1]
  conv => lhs; rw [e]
  rw [List.count_eq_countP, List.countP_map, List.countP_eq_length_filter]
  congr 1
theorem enum_row (sl : List Int) : enumD (sl.map D.int) = (List.range sl.length).map fun s : Nat => D.tuk [.int (s : Nat), .int (sl.getD s (-1))] := by
  unfold enumD
  apply List.ext_getElem (by simp)
  intro i h1 h2
  simp at h1
  simp [h1]
theorem full_hist {m n : Nat} {fw : List Nat} (H : Hist m n fw) (l : fw.length = m) : fw.Perm (List.range m) := by
  refine (List.perm_ext_iff_of_nodup H.nd List.nodup_range).mpr fun k => ?_
  rw [List.mem_range]
  refine ⟨H.lt k, fun lt => Classical.byContradiction fun no => ?_⟩
  have := nat_sub_len (k :: fw) (List.range m) (List.nodup_cons.mpr ⟨no, H.nd⟩) fun x hx => by
    rcases List.mem_cons.mp hx with rfl | hx
    · exact List.mem_range.mpr lt
    · exact List.mem_range.mpr (H.lt x hx)
  rw [List.length_cons, List.length_range, l] at this
  omega
theorem f2_enum {m : Nat} {w : List Int} (l : w.length = m) (nn : ∀ x ∈ w, 0 ≤ x) : F2 ((List.range m).zip (w.map Int.toNat)) (enumD (w.map D.int)) := by
  have key : ∀ (w : List Int) (k : Nat), (∀ x ∈ w, 0 ≤ x) → F2 ((List.range' k w.length).zip (w.map Int.toNat)) (((w.map D.int).zipIdx k).map fun p => D.tuk [.int (p.2 : Nat), p.1]) := by
    intro w
    induction w with
    | nil => intro k _; exact .nil
    | cons x w ih =>
      intro k h
      refine .cons (.inr ?_) (ih (k + 1) fun y hy => h y (List.mem_cons_of_mem _ hy))
      have : ((x.toNat : Nat) : Int) = x := Int.toNat_of_nonneg (h x (by simp))
      rw [this]
  have z := key w 0 nn
  rw [← List.range_eq_range', l] at z
  exact z
theorem way_best {m n : Nat} {hs : List Nat} {c : List Int} {ps : List (Nat × Nat)} (hl : hs.length = m) (lt : ∀ h ∈ hs, h < n) (n0 : 0 < n) (hc : Cnt c) (ce : c = cntL n hs (List.range m)) (W : Way m n c ps) : maxI (waitsI c) ≤ maxI (farL n hs ps) ∧ sqSum (waitsI c) ≤ ML.sumL ((farL n hs ps).map fun x => x * x) := by
  have fb := farL_bd (hs := hs) (ps := ps) n0
  constructor
  · refine way_max hl lt hc ce W (maxI_nn fun x hx => (fb x hx).1) fun p hp => ?_
    exact (maxI_spec (farL n hs ps) fun x hx => (fb x hx).1).2 _ (List.mem_map.mpr ⟨p, hp, rfl⟩)
  · have z := way_sq hl lt n0 hc ce W
    unfold farL
    rw [List.map_map]
    exact z
theorem Way.lt {m n : Nat} {c : List Int} {ps : List (Nat × Nat)} (W : Way m n c ps) : ps.length = m ∧ ∀ p ∈ ps, p.1 < m := by
  refine ⟨?_, fun p hp => ?_⟩
  · have := W.ks.length_eq
    rw [List.length_map, List.length_range] at this
    exact this
  · exact List.mem_range.mp (W.ks.mem_iff.mp (List.mem_map.mpr ⟨p, hp, rfl⟩))
theorem atE0 {a b : D} : atI [a, b] 0 = some a := atI_nat (j := 0) rfl
theorem atE1 {a b : D} : atI [a, b] 1 = some b := atI_nat (j := 1) rfl
def g_setR : DRs := fun ds st Q => ∃ (p k m n : Nat), ds = [.ref p, .int (m : Nat), .int (n : Nat)] ∧ Pot (k + 400) p st ∧ 1 ≤ m ∧ m ≤ n ∧ n ≤ 16 ∧ ∀ o : O, PotO k o → Q (.bl true) (st.set p o)
theorem ar_setR (ds : List D) (st : DSt) (Q : DK) (h : g_setR ds st Q) : ds.length = 3 := by
  obtain ⟨_, _, _, _, rfl, _⟩ := h
  rfl
set_option maxHeartbeats 8000000 in
theorem sem_setR (ds : List D) (st : DSt) (Q : DK) (h : g_setR ds st Q) : F__law_setting_right g_taken g_great g_sq g_layout g_isOrd g_farRule g_mixed g_lineS g_worths g_ways { nx := fun _ st' => Rt st Q .non st', rt := Rt st Q } (startD 17 ds) st := by
  obtain ⟨p, k, m, n, rfl, pot, m1, mn, n16, q⟩ := h
  have lt := pot.lt
  have st17 : startD 17 [D.ref p, D.int (m : Nat), D.int (n : Nat)] = [some (.ref p), some (.int (m : Nat)), some (.int (n : Nat)), none, none, none, none, none, none, none, none, none, none, none, none, none, none] := rfl
  have big : (2000 : Nat) ≤ sizeLine := by decide
  simp only [F__law_setting_right, st17]
  try dsimp only
  rw [e_seq]
  try simp only [e_var, e_C, e_op, e_neg, e_isN, e_notN, e_and, e_or, e_not, e_test, e_tAnd, e_tOr, e_tNot, e_tYes, e_if, e_aNil, e_aCons, e_tup, e_lst, e_lstN, e_len0, e_len1, e_len2, e_len3, e_len4, e_len5, e_cb, e_on1, e_on2, e_onI, e_onB, e_onO, e_onO0, e_onOO, e_I0, e_I, e_add, e_addT, e_addS, e_addL, e_addLR, e_addRL, e_addRR, e_mul, e_mulL, e_mulT, e_rev, e_revT, e_ix, e_eqI, e_eqS, e_eqB, e_neI, e_neS, e_neB, e_ltI, e_chain, e_len, e_abs, e_2I, e_tuple1, e_tuple2, e_tuple3, e_listT, e_listN, e_allR, e_seqT, e_seqK, e_seqL, e_isi, e_isB, e_notB, e_truth, e_next, e_drop, e_ret, e_retN, e_ifS, e_set, e_asg, e_par, e_nm, e_gsN, e_gsC, e_gTpK, e_gTpL, e_sum, e_maxL, e_minL, e_maxDef, e_int, e_intB, e_aug, e_on3, e_par3, e_newK, e_getK, e_keyI, e_keyS, e_inK, e_ninK, e_putK, e_lenK, e_lstS, e_seqX, e_gTpT, e_oN, e_oS, e_sl, e_slT, e_slL, e_finT, e_finN, e_index, e_idxT, e_idxL, e_mIx, e_ixST, e_ixSL, e_mtL, e_w, e_w1, e_w2, e_wE, e_wZ, e_itK, e_itT, e_itL, e_itT2, e_itL2, e_lc, e_for, e_wipe0, e_wipe, e_okI, e_okR, e_gSb, List.getElem?_cons_zero, List.getElem?_cons_succ, List.set_cons_zero, List.set_cons_succ]
  refine ⟨p, k + 300, m, n, rfl, pot.less (by omega), by omega, n16, by omega, fun hs o1 lh hlt po1 => ?_⟩
  try simp only [e_var, e_C, e_op, e_neg, e_isN, e_notN, e_and, e_or, e_not, e_test, e_tAnd, e_tOr, e_tNot, e_tYes, e_if, e_aNil, e_aCons, e_tup, e_lst, e_lstN, e_len0, e_len1, e_len2, e_len3, e_len4, e_len5, e_cb, e_on1, e_on2, e_onI, e_onB, e_onO, e_onO0, e_onOO, e_I0, e_I, e_add, e_addT, e_addS, e_addL, e_addLR, e_addRL, e_addRR, e_mul, e_mulL, e_mulT, e_rev, e_revT, e_ix, e_eqI, e_eqS, e_eqB, e_neI, e_neS, e_neB, e_ltI, e_chain, e_len, e_abs, e_2I, e_tuple1, e_tuple2, e_tuple3, e_listT, e_listN, e_allR, e_seqT, e_seqK, e_seqL, e_isi, e_isB, e_notB, e_truth, e_next, e_drop, e_ret, e_retN, e_ifS, e_set, e_asg, e_par, e_nm, e_gsN, e_gsC, e_gTpK, e_gTpL, e_sum, e_maxL, e_minL, e_maxDef, e_int, e_intB, e_aug, e_on3, e_par3, e_newK, e_getK, e_keyI, e_keyS, e_inK, e_ninK, e_putK, e_lenK, e_lstS, e_seqX, e_gTpT, e_oN, e_oS, e_sl, e_slT, e_slL, e_finT, e_finN, e_index, e_idxT, e_idxL, e_mIx, e_ixST, e_ixSL, e_mtL, e_w, e_w1, e_w2, e_wE, e_wZ, e_itK, e_itT, e_itL, e_itT2, e_itL2, e_lc, e_for, e_wipe0, e_wipe, e_okI, e_okR, e_gSb, List.getElem?_cons_zero, List.getElem?_cons_succ, List.set_cons_zero, List.set_cons_succ]
  refine ⟨rfl, ?_⟩
  have n0 : 0 < n := by omega
  have S := far_lin lh hlt n0
  have pl := S.s.pl
  try dsimp only
  rw [e_seq]
  try simp only [e_var, e_C, e_op, e_neg, e_isN, e_notN, e_and, e_or, e_not, e_test, e_tAnd, e_tOr, e_tNot, e_tYes, e_if, e_aNil, e_aCons, e_tup, e_lst, e_lstN, e_len0, e_len1, e_len2, e_len3, e_len4, e_len5, e_cb, e_on1, e_on2, e_onI, e_onB, e_onO, e_onO0, e_onOO, e_I0, e_I, e_add, e_addT, e_addS, e_addL, e_addLR, e_addRL, e_addRR, e_mul, e_mulL, e_mulT, e_rev, e_revT, e_ix, e_eqI, e_eqS, e_eqB, e_neI, e_neS, e_neB, e_ltI, e_chain, e_len, e_abs, e_2I, e_tuple1, e_tuple2, e_tuple3, e_listT, e_listN, e_allR, e_seqT, e_seqK, e_seqL, e_isi, e_isB, e_notB, e_truth, e_next, e_drop, e_ret, e_retN, e_ifS, e_set, e_asg, e_par, e_nm, e_gsN, e_gsC, e_gTpK, e_gTpL, e_sum, e_maxL, e_minL, e_maxDef, e_int, e_intB, e_aug, e_on3, e_par3, e_newK, e_getK, e_keyI, e_keyS, e_inK, e_ninK, e_putK, e_lenK, e_lstS, e_seqX, e_gTpT, e_oN, e_oS, e_sl, e_slT, e_slL, e_finT, e_finN, e_index, e_idxT, e_idxL, e_mIx, e_ixST, e_ixSL, e_mtL, e_w, e_w1, e_w2, e_wE, e_wZ, e_itK, e_itT, e_itL, e_itT2, e_itL2, e_lc, e_for, e_wipe0, e_wipe, e_okI, e_okR, e_gSb, List.getElem?_cons_zero, List.getElem?_cons_succ, List.set_cons_zero, List.set_cons_succ]
  refine ⟨n, lineP n hs, rfl, S.s.po, by omega, by omega, by omega, ?_⟩
  have er : (List.range n).map (fun s : Nat => ordT (farO (lineP n hs) s)) = farR n (lineP n hs) := rfl
  rw [er]
  try dsimp only
  rw [e_seq]
  try simp only [e_var, e_C, e_op, e_neg, e_isN, e_notN, e_and, e_or, e_not, e_test, e_tAnd, e_tOr, e_tNot, e_tYes, e_if, e_aNil, e_aCons, e_tup, e_lst, e_lstN, e_len0, e_len1, e_len2, e_len3, e_len4, e_len5, e_cb, e_on1, e_on2, e_onI, e_onB, e_onO, e_onO0, e_onOO, e_I0, e_I, e_add, e_addT, e_addS, e_addL, e_addLR, e_addRL, e_addRR, e_mul, e_mulL, e_mulT, e_rev, e_revT, e_ix, e_eqI, e_eqS, e_eqB, e_neI, e_neS, e_neB, e_ltI, e_chain, e_len, e_abs, e_2I, e_tuple1, e_tuple2, e_tuple3, e_listT, e_listN, e_allR, e_seqT, e_seqK, e_seqL, e_isi, e_isB, e_notB, e_truth, e_next, e_drop, e_ret, e_retN, e_ifS, e_set, e_asg, e_par, e_nm, e_gsN, e_gsC, e_gTpK, e_gTpL, e_sum, e_maxL, e_minL, e_maxDef, e_int, e_intB, e_aug, e_on3, e_par3, e_newK, e_getK, e_keyI, e_keyS, e_inK, e_ninK, e_putK, e_lenK, e_lstS, e_seqX, e_gTpT, e_oN, e_oS, e_sl, e_slT, e_slL, e_finT, e_finN, e_index, e_idxT, e_idxL, e_mIx, e_ixST, e_ixSL, e_mtL, e_w, e_w1, e_w2, e_wE, e_wZ, e_itK, e_itT, e_itL, e_itT2, e_itL2, e_lc, e_for, e_wipe0, e_wipe, e_okI, e_okR, e_gSb, List.getElem?_cons_zero, List.getElem?_cons_succ, List.set_cons_zero, List.set_cons_succ]
  unfold dLRg1
  try simp only [e_var, e_C, e_op, e_neg, e_isN, e_notN, e_and, e_or, e_not, e_test, e_tAnd, e_tOr, e_tNot, e_tYes, e_if, e_aNil, e_aCons, e_tup, e_lst, e_lstN, e_len0, e_len1, e_len2, e_len3, e_len4, e_len5, e_cb, e_on1, e_on2, e_onI, e_onB, e_onO, e_onO0, e_onOO, e_I0, e_I, e_add, e_addT, e_addS, e_addL, e_addLR, e_addRL, e_addRR, e_mul, e_mulL, e_mulT, e_rev, e_revT, e_ix, e_eqI, e_eqS, e_eqB, e_neI, e_neS, e_neB, e_ltI, e_chain, e_len, e_abs, e_2I, e_tuple1, e_tuple2, e_tuple3, e_listT, e_listN, e_allR, e_seqT, e_seqK, e_seqL, e_isi, e_isB, e_notB, e_truth, e_next, e_drop, e_ret, e_retN, e_ifS, e_set, e_asg, e_par, e_nm, e_gsN, e_gsC, e_gTpK, e_gTpL, e_sum, e_maxL, e_minL, e_maxDef, e_int, e_intB, e_aug, e_on3, e_par3, e_newK, e_getK, e_keyI, e_keyS, e_inK, e_ninK, e_putK, e_lenK, e_lstS, e_seqX, e_gTpT, e_oN, e_oS, e_sl, e_slT, e_slL, e_finT, e_finN, e_index, e_idxT, e_idxL, e_mIx, e_ixST, e_ixSL, e_mtL, e_w, e_w1, e_w2, e_wE, e_wZ, e_itK, e_itT, e_itL, e_itT2, e_itL2, e_lc, e_for, e_wipe0, e_wipe, e_okI, e_okR, e_gSb, List.getElem?_cons_zero, List.getElem?_cons_succ, List.set_cons_zero, List.set_cons_succ, Int.toNat_natCast]
  refine ⟨RgOk.of_le (by decide) (by omega) (by decide) (by omega), mixed_rg (k := k + 100) (by omega) (Pot.set lt (po1.less (by omega))) fun ns o2 on po2 => ?_⟩
  rw [List.set_set]
  try simp only [e_var, e_C, e_op, e_neg, e_isN, e_notN, e_and, e_or, e_not, e_test, e_tAnd, e_tOr, e_tNot, e_tYes, e_if, e_aNil, e_aCons, e_tup, e_lst, e_lstN, e_len0, e_len1, e_len2, e_len3, e_len4, e_len5, e_cb, e_on1, e_on2, e_onI, e_onB, e_onO, e_onO0, e_onOO, e_I0, e_I, e_add, e_addT, e_addS, e_addL, e_addLR, e_addRL, e_addRR, e_mul, e_mulL, e_mulT, e_rev, e_revT, e_ix, e_eqI, e_eqS, e_eqB, e_neI, e_neS, e_neB, e_ltI, e_chain, e_len, e_abs, e_2I, e_tuple1, e_tuple2, e_tuple3, e_listT, e_listN, e_allR, e_seqT, e_seqK, e_seqL, e_isi, e_isB, e_notB, e_truth, e_next, e_drop, e_ret, e_retN, e_ifS, e_set, e_asg, e_par, e_nm, e_gsN, e_gsC, e_gTpK, e_gTpL, e_sum, e_maxL, e_minL, e_maxDef, e_int, e_intB, e_aug, e_on3, e_par3, e_newK, e_getK, e_keyI, e_keyS, e_inK, e_ninK, e_putK, e_lenK, e_lstS, e_seqX, e_gTpT, e_oN, e_oS, e_sl, e_slT, e_slL, e_finT, e_finN, e_index, e_idxT, e_idxL, e_mIx, e_ixST, e_ixSL, e_mtL, e_w, e_w1, e_w2, e_wE, e_wZ, e_itK, e_itT, e_itL, e_itT2, e_itL2, e_lc, e_for, e_wipe0, e_wipe, e_okI, e_okR, e_gSb, List.getElem?_cons_zero, List.getElem?_cons_succ, List.set_cons_zero, List.set_cons_succ]
  obtain ⟨fw, efw, H⟩ := ord_take (n := n) on mn
  rw [List.take_of_length_le (by rw [on.len]; omega)] at efw
  subst efw
  have fl : fw.length = m := by have := on.len; unfold hI at this; rw [List.length_map] at this; exact this
  have pm := full_hist H fl
  refine ⟨m, n, lineP n hs, farR n (lineP n hs), fw, by rw [hist_row]; rfl, S.s, by omega, by omega, n0, H, ?_⟩
  have g := (layF_good S.s H).1
  have ks := (layF_good S.s H).2
  have I := line_ok S (by omega) H
  obtain ⟨b1, b2⟩ := far_best lh hlt n0 (by omega) H
  rw [cntL_perm pm] at I b1 b2
  have L := g.lay
  have all : ∀ k, (∃ s, At (layF (lineP n hs) (farR n (lineP n hs)) fw) s k) ↔ k < m := fun k => by rw [ks k, pm.mem_iff, List.mem_range]
  generalize layF (lineP n hs) (farR n (lineP n hs)) fw = sl at L I b1 b2 all
  generalize hcc : cntL n hs (List.range m) = c at I b1 b2
  have hc := I.cnt
  have cl := I.len
  have W := pairs_way (P := lineP n hs) (R := farR n (lineP n hs)) L I all
  have tko := taken_occ L I
  try dsimp only
  rw [e_seq]
  try simp only [e_var, e_C, e_op, e_neg, e_isN, e_notN, e_and, e_or, e_not, e_test, e_tAnd, e_tOr, e_tNot, e_tYes, e_if, e_aNil, e_aCons, e_tup, e_lst, e_lstN, e_len0, e_len1, e_len2, e_len3, e_len4, e_len5, e_cb, e_on1, e_on2, e_onI, e_onB, e_onO, e_onO0, e_onOO, e_I0, e_I, e_add, e_addT, e_addS, e_addL, e_addLR, e_addRL, e_addRR, e_mul, e_mulL, e_mulT, e_rev, e_revT, e_ix, e_eqI, e_eqS, e_eqB, e_neI, e_neS, e_neB, e_ltI, e_chain, e_len, e_abs, e_2I, e_tuple1, e_tuple2, e_tuple3, e_listT, e_listN, e_allR, e_seqT, e_seqK, e_seqL, e_isi, e_isB, e_notB, e_truth, e_next, e_drop, e_ret, e_retN, e_ifS, e_set, e_asg, e_par, e_nm, e_gsN, e_gsC, e_gTpK, e_gTpL, e_sum, e_maxL, e_minL, e_maxDef, e_int, e_intB, e_aug, e_on3, e_par3, e_newK, e_getK, e_keyI, e_keyS, e_inK, e_ninK, e_putK, e_lenK, e_lstS, e_seqX, e_gTpT, e_oN, e_oS, e_sl, e_slT, e_slL, e_finT, e_finN, e_index, e_idxT, e_idxL, e_mIx, e_ixST, e_ixSL, e_mtL, e_w, e_w1, e_w2, e_wE, e_wZ, e_itK, e_itT, e_itL, e_itT2, e_itL2, e_lc, e_for, e_wipe0, e_wipe, e_okI, e_okR, e_gSb, List.getElem?_cons_zero, List.getElem?_cons_succ, List.set_cons_zero, List.set_cons_succ, Int.toNat_natCast]
  refine ⟨⟨by omega, by omega⟩, by rw [rgD_length]; omega, ?_⟩
  refine lc_rng (fun s => .int (((((List.range m).filter fun k => decide (hm hs k = s)).length : Nat) : Int))) (fun s ls Q' q' => ?_) ?_
  · try simp only [e_var, e_C, e_op, e_neg, e_isN, e_notN, e_and, e_or, e_not, e_test, e_tAnd, e_tOr, e_tNot, e_tYes, e_if, e_aNil, e_aCons, e_tup, e_lst, e_lstN, e_len0, e_len1, e_len2, e_len3, e_len4, e_len5, e_cb, e_on1, e_on2, e_onI, e_onB, e_onO, e_onO0, e_onOO, e_I0, e_I, e_add, e_addT, e_addS, e_addL, e_addLR, e_addRL, e_addRR, e_mul, e_mulL, e_mulT, e_rev, e_revT, e_ix, e_eqI, e_eqS, e_eqB, e_neI, e_neS, e_neB, e_ltI, e_chain, e_len, e_abs, e_2I, e_tuple1, e_tuple2, e_tuple3, e_listT, e_listN, e_allR, e_seqT, e_seqK, e_seqL, e_isi, e_isB, e_notB, e_truth, e_next, e_drop, e_ret, e_retN, e_ifS, e_set, e_asg, e_par, e_nm, e_gsN, e_gsC, e_gTpK, e_gTpL, e_sum, e_maxL, e_minL, e_maxDef, e_int, e_intB, e_aug, e_on3, e_par3, e_newK, e_getK, e_keyI, e_keyS, e_inK, e_ninK, e_putK, e_lenK, e_lstS, e_seqX, e_gTpT, e_oN, e_oS, e_sl, e_slT, e_slL, e_finT, e_finN, e_index, e_idxT, e_idxL, e_mIx, e_ixST, e_ixSL, e_mtL, e_w, e_w1, e_w2, e_wE, e_wZ, e_itK, e_itT, e_itL, e_itT2, e_itL2, e_lc, e_for, e_wipe0, e_wipe, e_okI, e_okR, e_gSb, List.getElem?_cons_zero, List.getElem?_cons_succ, List.set_cons_zero, List.set_cons_succ]
    refine ⟨trivial, ?_⟩
    unfold mCount
    have ei : intsD (hL hs) = some (hI hs) := by
      have : hL hs = (hI hs).map D.int := by unfold hL hI; rw [List.map_map]; rfl
      rw [this, intsD_ints]
    try simp only [e_var, e_C, e_op, e_neg, e_isN, e_notN, e_and, e_or, e_not, e_test, e_tAnd, e_tOr, e_tNot, e_tYes, e_if, e_aNil, e_aCons, e_tup, e_lst, e_lstN, e_len0, e_len1, e_len2, e_len3, e_len4, e_len5, e_cb, e_on1, e_on2, e_onI, e_onB, e_onO, e_onO0, e_onOO, e_I0, e_I, e_add, e_addT, e_addS, e_addL, e_addLR, e_addRL, e_addRR, e_mul, e_mulL, e_mulT, e_rev, e_revT, e_ix, e_eqI, e_eqS, e_eqB, e_neI, e_neS, e_neB, e_ltI, e_chain, e_len, e_abs, e_2I, e_tuple1, e_tuple2, e_tuple3, e_listT, e_listN, e_allR, e_seqT, e_seqK, e_seqL, e_isi, e_isB, e_notB, e_truth, e_next, e_drop, e_ret, e_retN, e_ifS, e_set, e_asg, e_par, e_nm, e_gsN, e_gsC, e_gTpK, e_gTpL, e_sum, e_maxL, e_minL, e_maxDef, e_int, e_intB, e_aug, e_on3, e_par3, e_newK, e_getK, e_keyI, e_keyS, e_inK, e_ninK, e_putK, e_lenK, e_lstS, e_seqX, e_gTpT, e_oN, e_oS, e_sl, e_slT, e_slL, e_finT, e_finN, e_index, e_idxT, e_idxL, e_mIx, e_ixST, e_ixSL, e_mtL, e_w, e_w1, e_w2, e_wE, e_wZ, e_itK, e_itT, e_itL, e_itT2, e_itL2, e_lc, e_for, e_wipe0, e_wipe, e_okI, e_okR, e_gSb, List.getElem?_cons_zero, List.getElem?_cons_succ, List.set_cons_zero, List.set_cons_succ, ei, cnt_hs]
    rw [lh]
    exact q'
  refine tuple_end ?_
  have ec : (List.range n).map (fun s : Nat => D.int ((((List.range m).filter fun k => decide (hm hs k = s)).length : Nat) : Int)) = c.map D.int := by rw [← hcc]; unfold cntL; rw [List.map_map]; rfl
  rw [ec]
  have hr : D.tup (c.map D.int) = rowD c := rfl
  rw [hr]
  have sll : sl.length = n := L.len
  have itr : itOf (st.set p o2) (rowD sl) = some ⟨sl.map D.int, none⟩ := rfl
  try dsimp only
  rw [e_seq]
  try simp only [e_var, e_C, e_op, e_neg, e_isN, e_notN, e_and, e_or, e_not, e_test, e_tAnd, e_tOr, e_tNot, e_tYes, e_if, e_aNil, e_aCons, e_tup, e_lst, e_lstN, e_len0, e_len1, e_len2, e_len3, e_len4, e_len5, e_cb, e_on1, e_on2, e_onI, e_onB, e_onO, e_onO0, e_onOO, e_I0, e_I, e_add, e_addT, e_addS, e_addL, e_addLR, e_addRL, e_addRR, e_mul, e_mulL, e_mulT, e_rev, e_revT, e_ix, e_eqI, e_eqS, e_eqB, e_neI, e_neS, e_neB, e_ltI, e_chain, e_len, e_abs, e_2I, e_tuple1, e_tuple2, e_tuple3, e_listT, e_listN, e_allR, e_seqT, e_seqK, e_seqL, e_isi, e_isB, e_notB, e_truth, e_next, e_drop, e_ret, e_retN, e_ifS, e_set, e_asg, e_par, e_nm, e_gsN, e_gsC, e_gTpK, e_gTpL, e_sum, e_maxL, e_minL, e_maxDef, e_int, e_intB, e_aug, e_on3, e_par3, e_newK, e_getK, e_keyI, e_keyS, e_inK, e_ninK, e_putK, e_lenK, e_lstS, e_seqX, e_gTpT, e_oN, e_oS, e_sl, e_slT, e_slL, e_finT, e_finN, e_index, e_idxT, e_idxL, e_mIx, e_ixST, e_ixSL, e_mtL, e_w, e_w1, e_w2, e_wE, e_wZ, e_itK, e_itT, e_itL, e_itT2, e_itL2, e_lc, e_for, e_wipe0, e_wipe, e_okI, e_okR, e_gSb, List.getElem?_cons_zero, List.getElem?_cons_succ, List.set_cons_zero, List.set_cons_succ, itr, enum_row]
  rw [sll]
  refine ⟨by simp; omega, ?_⟩
  refine compS (.inl rfl) (fun s : Nat => D.tuk [.int (s : Nat), .int (sl.getD s (-1))]) (fun s => decide (0 ≤ sl.getD s (-1))) (fun s => .tup [.int (sl.getD s (-1)), .int (s : Nat)]) (List.range n) [] (fun s hs' Q' kk => ?_) ?_
  · try simp only [e_var, e_C, e_op, e_neg, e_isN, e_notN, e_and, e_or, e_not, e_test, e_tAnd, e_tOr, e_tNot, e_tYes, e_if, e_aNil, e_aCons, e_tup, e_lst, e_lstN, e_len0, e_len1, e_len2, e_len3, e_len4, e_len5, e_cb, e_on1, e_on2, e_onI, e_onB, e_onO, e_onO0, e_onOO, e_I0, e_I, e_add, e_addT, e_addS, e_addL, e_addLR, e_addRL, e_addRR, e_mul, e_mulL, e_mulT, e_rev, e_revT, e_ix, e_eqI, e_eqS, e_eqB, e_neI, e_neS, e_neB, e_ltI, e_chain, e_len, e_abs, e_2I, e_tuple1, e_tuple2, e_tuple3, e_listT, e_listN, e_allR, e_seqT, e_seqK, e_seqL, e_isi, e_isB, e_notB, e_truth, e_next, e_drop, e_ret, e_retN, e_ifS, e_set, e_asg, e_par, e_nm, e_gsN, e_gsC, e_gTpK, e_gTpL, e_sum, e_maxL, e_minL, e_maxDef, e_int, e_intB, e_aug, e_on3, e_par3, e_newK, e_getK, e_keyI, e_keyS, e_inK, e_ninK, e_putK, e_lenK, e_lstS, e_seqX, e_gTpT, e_oN, e_oS, e_sl, e_slT, e_slL, e_finT, e_finN, e_index, e_idxT, e_idxL, e_mIx, e_ixST, e_ixSL, e_mtL, e_w, e_w1, e_w2, e_wE, e_wZ, e_itK, e_itT, e_itL, e_itT2, e_itL2, e_lc, e_for, e_wipe0, e_wipe, e_okI, e_okR, e_gSb, List.getElem?_cons_zero, List.getElem?_cons_succ, List.set_cons_zero, List.set_cons_succ]
    refine ⟨rfl, kk _ (fun Q2 q2 => ?_) fun _ Q2 q2 => ?_⟩
    · try simp only [e_var, e_C, e_op, e_neg, e_isN, e_notN, e_and, e_or, e_not, e_test, e_tAnd, e_tOr, e_tNot, e_tYes, e_if, e_aNil, e_aCons, e_tup, e_lst, e_lstN, e_len0, e_len1, e_len2, e_len3, e_len4, e_len5, e_cb, e_on1, e_on2, e_onI, e_onB, e_onO, e_onO0, e_onOO, e_I0, e_I, e_add, e_addT, e_addS, e_addL, e_addLR, e_addRL, e_addRR, e_mul, e_mulL, e_mulT, e_rev, e_revT, e_ix, e_eqI, e_eqS, e_eqB, e_neI, e_neS, e_neB, e_ltI, e_chain, e_len, e_abs, e_2I, e_tuple1, e_tuple2, e_tuple3, e_listT, e_listN, e_allR, e_seqT, e_seqK, e_seqL, e_isi, e_isB, e_notB, e_truth, e_next, e_drop, e_ret, e_retN, e_ifS, e_set, e_asg, e_par, e_nm, e_gsN, e_gsC, e_gTpK, e_gTpL, e_sum, e_maxL, e_minL, e_maxDef, e_int, e_intB, e_aug, e_on3, e_par3, e_newK, e_getK, e_keyI, e_keyS, e_inK, e_ninK, e_putK, e_lenK, e_lstS, e_seqX, e_gTpT, e_oN, e_oS, e_sl, e_slT, e_slL, e_finT, e_finN, e_index, e_idxT, e_idxL, e_mIx, e_ixST, e_ixSL, e_mtL, e_w, e_w1, e_w2, e_wE, e_wZ, e_itK, e_itT, e_itL, e_itT2, e_itL2, e_lc, e_for, e_wipe0, e_wipe, e_okI, e_okR, e_gSb, List.getElem?_cons_zero, List.getElem?_cons_succ, List.set_cons_zero, List.set_cons_succ]
      exact q2
    · try simp only [e_var, e_C, e_op, e_neg, e_isN, e_notN, e_and, e_or, e_not, e_test, e_tAnd, e_tOr, e_tNot, e_tYes, e_if, e_aNil, e_aCons, e_tup, e_lst, e_lstN, e_len0, e_len1, e_len2, e_len3, e_len4, e_len5, e_cb, e_on1, e_on2, e_onI, e_onB, e_onO, e_onO0, e_onOO, e_I0, e_I, e_add, e_addT, e_addS, e_addL, e_addLR, e_addRL, e_addRR, e_mul, e_mulL, e_mulT, e_rev, e_revT, e_ix, e_eqI, e_eqS, e_eqB, e_neI, e_neS, e_neB, e_ltI, e_chain, e_len, e_abs, e_2I, e_tuple1, e_tuple2, e_tuple3, e_listT, e_listN, e_allR, e_seqT, e_seqK, e_seqL, e_isi, e_isB, e_notB, e_truth, e_next, e_drop, e_ret, e_retN, e_ifS, e_set, e_asg, e_par, e_nm, e_gsN, e_gsC, e_gTpK, e_gTpL, e_sum, e_maxL, e_minL, e_maxDef, e_int, e_intB, e_aug, e_on3, e_par3, e_newK, e_getK, e_keyI, e_keyS, e_inK, e_ninK, e_putK, e_lenK, e_lstS, e_seqX, e_gTpT, e_oN, e_oS, e_sl, e_slT, e_slL, e_finT, e_finN, e_index, e_idxT, e_idxL, e_mIx, e_ixST, e_ixSL, e_mtL, e_w, e_w1, e_w2, e_wE, e_wZ, e_itK, e_itT, e_itL, e_itT2, e_itL2, e_lc, e_for, e_wipe0, e_wipe, e_okI, e_okR, e_gSb, List.getElem?_cons_zero, List.getElem?_cons_succ, List.set_cons_zero, List.set_cons_succ]
      exact q2
  refine fin_lst ?_
  rw [List.nil_append]
  have ep : ((List.range n).filter fun s => decide (0 ≤ sl.getD s (-1))).map (fun s : Nat => D.tup [.int (sl.getD s (-1)), .int (s : Nat)]) = (pairsL n sl).map encT := by
    unfold pairsL encT
    rw [List.map_map]
    refine List.map_congr_left fun s hs' => ?_
    have := of_decide_eq_true (List.mem_filter.mp hs').2
    simp only [Function.comp]
    rw [Int.toNat_of_nonneg this]
  rw [ep]
  have snd : (pairsL n sl).map (fun p => D.int (p.2 : Nat)) = (takenI c).map D.int := by
    rw [← tko]
    unfold pairsL
    rw [List.map_map, List.map_map]
    rfl
  have fp := farL_pairs n hs sl
  generalize hps : pairsL n sl = ps at W snd fp
  obtain ⟨psl, psk⟩ := W.lt
  have tl : (takenI c).length = m := by
    have := congrArg List.length snd
    rw [List.length_map, List.length_map, psl] at this
    exact this.symm
  try dsimp only
  rw [e_seq]
  try simp only [e_var, e_C, e_op, e_neg, e_isN, e_notN, e_and, e_or, e_not, e_test, e_tAnd, e_tOr, e_tNot, e_tYes, e_if, e_aNil, e_aCons, e_tup, e_lst, e_lstN, e_len0, e_len1, e_len2, e_len3, e_len4, e_len5, e_cb, e_on1, e_on2, e_onI, e_onB, e_onO, e_onO0, e_onOO, e_I0, e_I, e_add, e_addT, e_addS, e_addL, e_addLR, e_addRL, e_addRR, e_mul, e_mulL, e_mulT, e_rev, e_revT, e_ix, e_eqI, e_eqS, e_eqB, e_neI, e_neS, e_neB, e_ltI, e_chain, e_len, e_abs, e_2I, e_tuple1, e_tuple2, e_tuple3, e_listT, e_listN, e_allR, e_seqT, e_seqK, e_seqL, e_isi, e_isB, e_notB, e_truth, e_next, e_drop, e_ret, e_retN, e_ifS, e_set, e_asg, e_par, e_nm, e_gsN, e_gsC, e_gTpK, e_gTpL, e_sum, e_maxL, e_minL, e_maxDef, e_int, e_intB, e_aug, e_on3, e_par3, e_newK, e_getK, e_keyI, e_keyS, e_inK, e_ninK, e_putK, e_lenK, e_lstS, e_seqX, e_gTpT, e_oN, e_oS, e_sl, e_slT, e_slL, e_finT, e_finN, e_index, e_idxT, e_idxL, e_mIx, e_ixST, e_ixSL, e_mtL, e_w, e_w1, e_w2, e_wE, e_wZ, e_itK, e_itT, e_itL, e_itT2, e_itL2, e_lc, e_for, e_wipe0, e_wipe, e_okI, e_okR, e_gSb, List.getElem?_cons_zero, List.getElem?_cons_succ, List.set_cons_zero, List.set_cons_succ]
  refine ⟨c, rfl, hc, ?_⟩
  refine ⟨c, rfl, hc, ?_⟩
  have v1 : 0 ≤ maxI (waitsI c) ∧ maxI (waitsI c) ≤ 100 := by
    have wl := waits_lt hc
    obtain ⟨ma, mb⟩ := maxI_spec (waitsI c) fun x hx => (wl x hx).1
    rcases ma with ⟨_, z⟩ | z
    · omega
    · have := wl _ z
      omega
  have v2 := waits_sq_le hc (by omega)
  have smd : Sm 1 100 (.tup [.int (maxI (waitsI c)), .int (sqSum (waitsI c))]) := Sm.mono (sm_tup (k := 0) (c := 20) (m := 2) (fun d hd => by
    simp only [List.mem_cons, List.not_mem_nil, or_false] at hd
    rcases hd with rfl | rfl
    · exact sm_intB (by omega)
    · exact sm_intB (by omega)) (by simp)) (by decide) (by decide)
  try dsimp only
  rw [e_seq]
  try simp only [e_var, e_C, e_op, e_neg, e_isN, e_notN, e_and, e_or, e_not, e_test, e_tAnd, e_tOr, e_tNot, e_tYes, e_if, e_aNil, e_aCons, e_tup, e_lst, e_lstN, e_len0, e_len1, e_len2, e_len3, e_len4, e_len5, e_cb, e_on1, e_on2, e_onI, e_onB, e_onO, e_onO0, e_onOO, e_I0, e_I, e_add, e_addT, e_addS, e_addL, e_addLR, e_addRL, e_addRR, e_mul, e_mulL, e_mulT, e_rev, e_revT, e_ix, e_eqI, e_eqS, e_eqB, e_neI, e_neS, e_neB, e_ltI, e_chain, e_len, e_abs, e_2I, e_tuple1, e_tuple2, e_tuple3, e_listT, e_listN, e_allR, e_seqT, e_seqK, e_seqL, e_isi, e_isB, e_notB, e_truth, e_next, e_drop, e_ret, e_retN, e_ifS, e_set, e_asg, e_par, e_nm, e_gsN, e_gsC, e_gTpK, e_gTpL, e_sum, e_maxL, e_minL, e_maxDef, e_int, e_intB, e_aug, e_on3, e_par3, e_newK, e_getK, e_keyI, e_keyS, e_inK, e_ninK, e_putK, e_lenK, e_lstS, e_seqX, e_gTpT, e_oN, e_oS, e_sl, e_slT, e_slL, e_finT, e_finN, e_index, e_idxT, e_idxL, e_mIx, e_ixST, e_ixSL, e_mtL, e_w, e_w1, e_w2, e_wE, e_wZ, e_itK, e_itT, e_itL, e_itT2, e_itL2, e_lc, e_for, e_wipe0, e_wipe, e_okI, e_okR, e_gSb, List.getElem?_cons_zero, List.getElem?_cons_succ, List.set_cons_zero, List.set_cons_succ]
  refine ⟨m, farR n (lineP n hs), rfl, S.s.rt, by omega, by rw [S.s.rl]; omega, ?_⟩
  have ro : (farR n (lineP n hs)).all noRing = true := List.all_eq_true.mpr fun t ht => farR_no n _ t ht
  rw [ro]
  try simp only [e_var, e_C, e_op, e_neg, e_isN, e_notN, e_and, e_or, e_not, e_test, e_tAnd, e_tOr, e_tNot, e_tYes, e_if, e_aNil, e_aCons, e_tup, e_lst, e_lstN, e_len0, e_len1, e_len2, e_len3, e_len4, e_len5, e_cb, e_on1, e_on2, e_onI, e_onB, e_onO, e_onO0, e_onOO, e_I0, e_I, e_add, e_addT, e_addS, e_addL, e_addLR, e_addRL, e_addRR, e_mul, e_mulL, e_mulT, e_rev, e_revT, e_ix, e_eqI, e_eqS, e_eqB, e_neI, e_neS, e_neB, e_ltI, e_chain, e_len, e_abs, e_2I, e_tuple1, e_tuple2, e_tuple3, e_listT, e_listN, e_allR, e_seqT, e_seqK, e_seqL, e_isi, e_isB, e_notB, e_truth, e_next, e_drop, e_ret, e_retN, e_ifS, e_set, e_asg, e_par, e_nm, e_gsN, e_gsC, e_gTpK, e_gTpL, e_sum, e_maxL, e_minL, e_maxDef, e_int, e_intB, e_aug, e_on3, e_par3, e_newK, e_getK, e_keyI, e_keyS, e_inK, e_ninK, e_putK, e_lenK, e_lstS, e_seqX, e_gTpT, e_oN, e_oS, e_sl, e_slT, e_slL, e_finT, e_finN, e_index, e_idxT, e_idxL, e_mIx, e_ixST, e_ixSL, e_mtL, e_w, e_w1, e_w2, e_wE, e_wZ, e_itK, e_itT, e_itL, e_itT2, e_itL2, e_lc, e_for, e_wipe0, e_wipe, e_okI, e_okR, e_gSb, List.getElem?_cons_zero, List.getElem?_cons_succ, List.set_cons_zero, List.set_cons_succ, List.length_map]
  refine iteF' rfl ?_
  refine ⟨by omega, ?_⟩
  refine lc_pair encT (fun p => .int (p.2 : Nat)) ps (fun p hp Q' kk => ?_) ?_
  · unfold encT
    try simp only [e_var, e_C, e_op, e_neg, e_isN, e_notN, e_and, e_or, e_not, e_test, e_tAnd, e_tOr, e_tNot, e_tYes, e_if, e_aNil, e_aCons, e_tup, e_lst, e_lstN, e_len0, e_len1, e_len2, e_len3, e_len4, e_len5, e_cb, e_on1, e_on2, e_onI, e_onB, e_onO, e_onO0, e_onOO, e_I0, e_I, e_add, e_addT, e_addS, e_addL, e_addLR, e_addRL, e_addRR, e_mul, e_mulL, e_mulT, e_rev, e_revT, e_ix, e_eqI, e_eqS, e_eqB, e_neI, e_neS, e_neB, e_ltI, e_chain, e_len, e_abs, e_2I, e_tuple1, e_tuple2, e_tuple3, e_listT, e_listN, e_allR, e_seqT, e_seqK, e_seqL, e_isi, e_isB, e_notB, e_truth, e_next, e_drop, e_ret, e_retN, e_ifS, e_set, e_asg, e_par, e_nm, e_gsN, e_gsC, e_gTpK, e_gTpL, e_sum, e_maxL, e_minL, e_maxDef, e_int, e_intB, e_aug, e_on3, e_par3, e_newK, e_getK, e_keyI, e_keyS, e_inK, e_ninK, e_putK, e_lenK, e_lstS, e_seqX, e_gTpT, e_oN, e_oS, e_sl, e_slT, e_slL, e_finT, e_finN, e_index, e_idxT, e_idxL, e_mIx, e_ixST, e_ixSL, e_mtL, e_w, e_w1, e_w2, e_wE, e_wZ, e_itK, e_itT, e_itL, e_itT2, e_itL2, e_lc, e_for, e_wipe0, e_wipe, e_okI, e_okR, e_gSb, List.getElem?_cons_zero, List.getElem?_cons_succ, List.set_cons_zero, List.set_cons_succ]
    exact ⟨rfl, kk _ fun Q2 q2 => q2⟩
  refine fin_lst ?_
  rw [snd]
  refine ⟨c, rfl, hc, ?_⟩
  have sq : ∀ (st : DSt) (z : List Int), seqS st (rowD z) = some (z.map D.int) := fun _ _ => rfl
  try simp only [e_var, e_C, e_op, e_neg, e_isN, e_notN, e_and, e_or, e_not, e_test, e_tAnd, e_tOr, e_tNot, e_tYes, e_if, e_aNil, e_aCons, e_tup, e_lst, e_lstN, e_len0, e_len1, e_len2, e_len3, e_len4, e_len5, e_cb, e_on1, e_on2, e_onI, e_onB, e_onO, e_onO0, e_onOO, e_I0, e_I, e_add, e_addT, e_addS, e_addL, e_addLR, e_addRL, e_addRR, e_mul, e_mulL, e_mulT, e_rev, e_revT, e_ix, e_eqI, e_eqS, e_eqB, e_neI, e_neS, e_neB, e_ltI, e_chain, e_len, e_abs, e_2I, e_tuple1, e_tuple2, e_tuple3, e_listT, e_listN, e_allR, e_seqT, e_seqK, e_seqL, e_isi, e_isB, e_notB, e_truth, e_next, e_drop, e_ret, e_retN, e_ifS, e_set, e_asg, e_par, e_nm, e_gsN, e_gsC, e_gTpK, e_gTpL, e_sum, e_maxL, e_minL, e_maxDef, e_int, e_intB, e_aug, e_on3, e_par3, e_newK, e_getK, e_keyI, e_keyS, e_inK, e_ninK, e_putK, e_lenK, e_lstS, e_seqX, e_gTpT, e_oN, e_oS, e_sl, e_slT, e_slL, e_finT, e_finN, e_index, e_idxT, e_idxL, e_mIx, e_ixST, e_ixSL, e_mtL, e_w, e_w1, e_w2, e_wE, e_wZ, e_itK, e_itT, e_itL, e_itT2, e_itL2, e_lc, e_for, e_wipe0, e_wipe, e_okI, e_okR, e_gSb, List.getElem?_cons_zero, List.getElem?_cons_succ, List.set_cons_zero, List.set_cons_succ, sq]
  have tkm : ∀ x ∈ takenI c, ∃ s : Nat, x = s ∧ s < n ∧ isTk c s = true := fun x hx => by
    obtain ⟨s, e, ls, t⟩ := takenI_mem.mp hx
    exact ⟨s, e, by omega, t⟩
  refine eq_lst (k := 1) (c := 2000) (Sm.mono (sm_lst (k := 0) (c := 20) (m := 20) (fun d hd => by
    obtain ⟨x, hx, rfl⟩ := List.mem_map.mp hd
    obtain ⟨s, rfl, ls, _⟩ := tkm x hx
    exact sm_int (by omega) (by omega)) (by rw [List.length_map]; omega)) (by decide) (by decide)) (by decide) true ?_
  try simp only [e_var, e_C, e_op, e_neg, e_isN, e_notN, e_and, e_or, e_not, e_test, e_tAnd, e_tOr, e_tNot, e_tYes, e_if, e_aNil, e_aCons, e_tup, e_lst, e_lstN, e_len0, e_len1, e_len2, e_len3, e_len4, e_len5, e_cb, e_on1, e_on2, e_onI, e_onB, e_onO, e_onO0, e_onOO, e_I0, e_I, e_add, e_addT, e_addS, e_addL, e_addLR, e_addRL, e_addRR, e_mul, e_mulL, e_mulT, e_rev, e_revT, e_ix, e_eqI, e_eqS, e_eqB, e_neI, e_neS, e_neB, e_ltI, e_chain, e_len, e_abs, e_2I, e_tuple1, e_tuple2, e_tuple3, e_listT, e_listN, e_allR, e_seqT, e_seqK, e_seqL, e_isi, e_isB, e_notB, e_truth, e_next, e_drop, e_ret, e_retN, e_ifS, e_set, e_asg, e_par, e_nm, e_gsN, e_gsC, e_gTpK, e_gTpL, e_sum, e_maxL, e_minL, e_maxDef, e_int, e_intB, e_aug, e_on3, e_par3, e_newK, e_getK, e_keyI, e_keyS, e_inK, e_ninK, e_putK, e_lenK, e_lstS, e_seqX, e_gTpT, e_oN, e_oS, e_sl, e_slT, e_slL, e_finT, e_finN, e_index, e_idxT, e_idxL, e_mIx, e_ixST, e_ixSL, e_mtL, e_w, e_w1, e_w2, e_wE, e_wZ, e_itK, e_itT, e_itL, e_itT2, e_itL2, e_lc, e_for, e_wipe0, e_wipe, e_okI, e_okR, e_gSb, List.getElem?_cons_zero, List.getElem?_cons_succ, List.set_cons_zero, List.set_cons_succ]
  refine iteF' rfl ?_
  try dsimp only
  rw [e_seq]
  try simp only [e_var, e_C, e_op, e_neg, e_isN, e_notN, e_and, e_or, e_not, e_test, e_tAnd, e_tOr, e_tNot, e_tYes, e_if, e_aNil, e_aCons, e_tup, e_lst, e_lstN, e_len0, e_len1, e_len2, e_len3, e_len4, e_len5, e_cb, e_on1, e_on2, e_onI, e_onB, e_onO, e_onO0, e_onOO, e_I0, e_I, e_add, e_addT, e_addS, e_addL, e_addLR, e_addRL, e_addRR, e_mul, e_mulL, e_mulT, e_rev, e_revT, e_ix, e_eqI, e_eqS, e_eqB, e_neI, e_neS, e_neB, e_ltI, e_chain, e_len, e_abs, e_2I, e_tuple1, e_tuple2, e_tuple3, e_listT, e_listN, e_allR, e_seqT, e_seqK, e_seqL, e_isi, e_isB, e_notB, e_truth, e_next, e_drop, e_ret, e_retN, e_ifS, e_set, e_asg, e_par, e_nm, e_gsN, e_gsC, e_gTpK, e_gTpL, e_sum, e_maxL, e_minL, e_maxDef, e_int, e_intB, e_aug, e_on3, e_par3, e_newK, e_getK, e_keyI, e_keyS, e_inK, e_ninK, e_putK, e_lenK, e_lstS, e_seqX, e_gTpT, e_oN, e_oS, e_sl, e_slT, e_slL, e_finT, e_finN, e_index, e_idxT, e_idxL, e_mIx, e_ixST, e_ixSL, e_mtL, e_w, e_w1, e_w2, e_wE, e_wZ, e_itK, e_itT, e_itL, e_itT2, e_itL2, e_lc, e_for, e_wipe0, e_wipe, e_okI, e_okR, e_gSb, List.getElem?_cons_zero, List.getElem?_cons_succ, List.set_cons_zero, List.set_cons_succ]
  refine ⟨n, hs, ps, .lst (ps.map encT), ps.map encT, rfl, .inl rfl, f2_encT ps, fun p hp => by rw [lh]; exact psk p hp, hlt, n0, by omega, by omega, ?_⟩
  rw [fp, b1, b2]
  try simp only [e_var, e_C, e_op, e_neg, e_isN, e_notN, e_and, e_or, e_not, e_test, e_tAnd, e_tOr, e_tNot, e_tYes, e_if, e_aNil, e_aCons, e_tup, e_lst, e_lstN, e_len0, e_len1, e_len2, e_len3, e_len4, e_len5, e_cb, e_on1, e_on2, e_onI, e_onB, e_onO, e_onO0, e_onOO, e_I0, e_I, e_add, e_addT, e_addS, e_addL, e_addLR, e_addRL, e_addRR, e_mul, e_mulL, e_mulT, e_rev, e_revT, e_ix, e_eqI, e_eqS, e_eqB, e_neI, e_neS, e_neB, e_ltI, e_chain, e_len, e_abs, e_2I, e_tuple1, e_tuple2, e_tuple3, e_listT, e_listN, e_allR, e_seqT, e_seqK, e_seqL, e_isi, e_isB, e_notB, e_truth, e_next, e_drop, e_ret, e_retN, e_ifS, e_set, e_asg, e_par, e_nm, e_gsN, e_gsC, e_gTpK, e_gTpL, e_sum, e_maxL, e_minL, e_maxDef, e_int, e_intB, e_aug, e_on3, e_par3, e_newK, e_getK, e_keyI, e_keyS, e_inK, e_ninK, e_putK, e_lenK, e_lstS, e_seqX, e_gTpT, e_oN, e_oS, e_sl, e_slT, e_slL, e_finT, e_finN, e_index, e_idxT, e_idxL, e_mIx, e_ixST, e_ixSL, e_mtL, e_w, e_w1, e_w2, e_wE, e_wZ, e_itK, e_itT, e_itL, e_itT2, e_itL2, e_lc, e_for, e_wipe0, e_wipe, e_okI, e_okR, e_gSb, List.getElem?_cons_zero, List.getElem?_cons_succ, List.set_cons_zero, List.set_cons_succ]
  refine ne_tup smd (by decide) ?_
  try simp only [e_var, e_C, e_op, e_neg, e_isN, e_notN, e_and, e_or, e_not, e_test, e_tAnd, e_tOr, e_tNot, e_tYes, e_if, e_aNil, e_aCons, e_tup, e_lst, e_lstN, e_len0, e_len1, e_len2, e_len3, e_len4, e_len5, e_cb, e_on1, e_on2, e_onI, e_onB, e_onO, e_onO0, e_onOO, e_I0, e_I, e_add, e_addT, e_addS, e_addL, e_addLR, e_addRL, e_addRR, e_mul, e_mulL, e_mulT, e_rev, e_revT, e_ix, e_eqI, e_eqS, e_eqB, e_neI, e_neS, e_neB, e_ltI, e_chain, e_len, e_abs, e_2I, e_tuple1, e_tuple2, e_tuple3, e_listT, e_listN, e_allR, e_seqT, e_seqK, e_seqL, e_isi, e_isB, e_notB, e_truth, e_next, e_drop, e_ret, e_retN, e_ifS, e_set, e_asg, e_par, e_nm, e_gsN, e_gsC, e_gTpK, e_gTpL, e_sum, e_maxL, e_minL, e_maxDef, e_int, e_intB, e_aug, e_on3, e_par3, e_newK, e_getK, e_keyI, e_keyS, e_inK, e_ninK, e_putK, e_lenK, e_lstS, e_seqX, e_gTpT, e_oN, e_oS, e_sl, e_slT, e_slL, e_finT, e_finN, e_index, e_idxT, e_idxL, e_mIx, e_ixST, e_ixSL, e_mtL, e_w, e_w1, e_w2, e_wE, e_wZ, e_itK, e_itT, e_itL, e_itT2, e_itL2, e_lc, e_for, e_wipe0, e_wipe, e_okI, e_okR, e_gSb, List.getElem?_cons_zero, List.getElem?_cons_succ, List.set_cons_zero, List.set_cons_succ]
  refine iteF' rfl ?_
  have best := fun (qs : List (Nat × Nat)) (Wq : Way m n c qs) => way_best lh hlt n0 hc hcc.symm Wq
  have cst : ∀ (o : O) (kk : Nat), PotO kk o → ∀ (i : Nat) (u : O), (st.set p o)[i]? = some u → st[i]? = some u ∨ cloO st.length u = true := fun o kk po => cs_set (m := st.length) po
  have tail : ∀ (x11 x12 x13 x8 x14 x15 x16 : Option D), sSeq (sFor (wRng1 (daCons (dCB dLen (daCons (dVar 9) daNil)) daNil)) (gNm 8) (sFor (wRng1 (daCons (dVar 8) daNil)) (gNm 14) (sSeq (sSet 15 (dCB dListN (daCons (dVar 9) daNil))) (sSeq (sAsg (dTup (daCons (dTup (daCons (dOp dIx (dOp dIx (dVar 9) (dVar 8)) (dC (.int 0))) (daCons (dOp dIx (dOp dIx (dVar 9) (dVar 14)) (dC (.int 1))) daNil))) (daCons (dTup (daCons (dOp dIx (dOp dIx (dVar 9) (dVar 14)) (dC (.int 0))) (daCons (dOp dIx (dOp dIx (dVar 9) (dVar 8)) (dC (.int 1))) daNil))) daNil))) (gTp 2 (gsCons (gSb (dVar 15) (dVar 8)) (gsCons (gSb (dVar 15) (dVar 14)) gsNil)))) (sSeq (sAsg (dCB g_worths (daCons (dVar 3) (daCons (dVar 15) (daCons (dVar 2) daNil)))) (gTp 2 (gsCons (gNm 12) (gsCons (gNm 13) gsNil)))) (sIf (dtOr (dTest (dOp dLtG (dVar 12) (dOp dIx (dVar 10) (dC (.int 0))))) (dTest (dOp dLtG (dVar 13) (dOp dIx (dVar 10) (dC (.int 1)))))) (sRet (dC (.bl false))) sNext)))))) (sRet (dC (.bl true)))
      { nx := fun _ st' => Rt st Q .non st', rt := Rt st Q } [some (.ref p), some (.int (m : Nat)), some (.int (n : Nat)), some (.lst (hL hs)), some (rowsD (lineP n hs)), some (tabsD (farR n (lineP n hs))), some (rowD sl), some (rowD c), x8, some (.lst (ps.map encT)), some (.tup [.int (maxI (waitsI c)), .int (sqSum (waitsI c))]), x11, x12, x13, x14, x15, x16] (st.set p o2) := by
    intro x11 x12 x13 x8 x14 x15 x16
    try dsimp only
    rw [e_seq]
    try simp only [e_var, e_C, e_op, e_neg, e_isN, e_notN, e_and, e_or, e_not, e_test, e_tAnd, e_tOr, e_tNot, e_tYes, e_if, e_aNil, e_aCons, e_tup, e_lst, e_lstN, e_len0, e_len1, e_len2, e_len3, e_len4, e_len5, e_cb, e_on1, e_on2, e_onI, e_onB, e_onO, e_onO0, e_onOO, e_I0, e_I, e_add, e_addT, e_addS, e_addL, e_addLR, e_addRL, e_addRR, e_mul, e_mulL, e_mulT, e_rev, e_revT, e_ix, e_eqI, e_eqS, e_eqB, e_neI, e_neS, e_neB, e_ltI, e_chain, e_len, e_abs, e_2I, e_tuple1, e_tuple2, e_tuple3, e_listT, e_listN, e_allR, e_seqT, e_seqK, e_seqL, e_isi, e_isB, e_notB, e_truth, e_next, e_drop, e_ret, e_retN, e_ifS, e_set, e_asg, e_par, e_nm, e_gsN, e_gsC, e_gTpK, e_gTpL, e_sum, e_maxL, e_minL, e_maxDef, e_int, e_intB, e_aug, e_on3, e_par3, e_newK, e_getK, e_keyI, e_keyS, e_inK, e_ninK, e_putK, e_lenK, e_lstS, e_seqX, e_gTpT, e_oN, e_oS, e_sl, e_slT, e_slL, e_finT, e_finN, e_index, e_idxT, e_idxL, e_mIx, e_ixST, e_ixSL, e_mtL, e_w, e_w1, e_w2, e_wE, e_wZ, e_itK, e_itT, e_itL, e_itT2, e_itL2, e_lc, e_for, e_wipe0, e_wipe, e_okI, e_okR, e_gSb, List.getElem?_cons_zero, List.getElem?_cons_succ, List.set_cons_zero, List.set_cons_succ, List.length_map, Int.toNat_natCast]
    refine ⟨⟨by omega, by omega⟩, ?_⟩
    refine for_inv (fun left r st' => ∃ (t : Nat) (jk : List O) (x8 x12 x13 x14 x15 : Option D), left = (rgD 0 ps.length).drop t ∧ st' = st.set p o2 ++ jk ∧ r = [some (.ref p), some (.int (m : Nat)), some (.int (n : Nat)), some (.lst (hL hs)), some (rowsD (lineP n hs)), some (tabsD (farR n (lineP n hs))), some (rowD sl), some (rowD c), x8, some (.lst (ps.map encT)), some (.tup [.int (maxI (waitsI c)), .int (sqSum (waitsI c))]), x11, x12, x13, x14, x15, x16]) ?_ ?_ _ _ _ ⟨0, [], _, _, _, _, _, rfl, (List.append_nil _).symm, rfl⟩
    · rintro d left r st' N hN ⟨a, jk, x8, x12, x13, x14, x15, el, rfl, rfl⟩
      obtain ⟨ea, la2, e3⟩ := drop_cons el.symm
      obtain ⟨lta, rfl⟩ := rgD_get ea
      rw [Int.zero_add]
      try simp only [e_var, e_C, e_op, e_neg, e_isN, e_notN, e_and, e_or, e_not, e_test, e_tAnd, e_tOr, e_tNot, e_tYes, e_if, e_aNil, e_aCons, e_tup, e_lst, e_lstN, e_len0, e_len1, e_len2, e_len3, e_len4, e_len5, e_cb, e_on1, e_on2, e_onI, e_onB, e_onO, e_onO0, e_onOO, e_I0, e_I, e_add, e_addT, e_addS, e_addL, e_addLR, e_addRL, e_addRR, e_mul, e_mulL, e_mulT, e_rev, e_revT, e_ix, e_eqI, e_eqS, e_eqB, e_neI, e_neS, e_neB, e_ltI, e_chain, e_len, e_abs, e_2I, e_tuple1, e_tuple2, e_tuple3, e_listT, e_listN, e_allR, e_seqT, e_seqK, e_seqL, e_isi, e_isB, e_notB, e_truth, e_next, e_drop, e_ret, e_retN, e_ifS, e_set, e_asg, e_par, e_nm, e_gsN, e_gsC, e_gTpK, e_gTpL, e_sum, e_maxL, e_minL, e_maxDef, e_int, e_intB, e_aug, e_on3, e_par3, e_newK, e_getK, e_keyI, e_keyS, e_inK, e_ninK, e_putK, e_lenK, e_lstS, e_seqX, e_gTpT, e_oN, e_oS, e_sl, e_slT, e_slL, e_finT, e_finN, e_index, e_idxT, e_idxL, e_mIx, e_ixST, e_ixSL, e_mtL, e_w, e_w1, e_w2, e_wE, e_wZ, e_itK, e_itT, e_itL, e_itT2, e_itL2, e_lc, e_for, e_wipe0, e_wipe, e_okI, e_okR, e_gSb, List.getElem?_cons_zero, List.getElem?_cons_succ, List.set_cons_zero, List.set_cons_succ, Int.toNat_natCast]
      refine ⟨⟨by omega, by omega⟩, ?_⟩
      refine for_inv (fun left2 r st' => ∃ (u : Nat) (jk : List O) (x12 x13 x14 x15 : Option D), left2 = (rgD 0 a).drop u ∧ st' = st.set p o2 ++ jk ∧ r = [some (.ref p), some (.int (m : Nat)), some (.int (n : Nat)), some (.lst (hL hs)), some (rowsD (lineP n hs)), some (tabsD (farR n (lineP n hs))), some (rowD sl), some (rowD c), some (.int (a : Nat)), some (.lst (ps.map encT)), some (.tup [.int (maxI (waitsI c)), .int (sqSum (waitsI c))]), x11, x12, x13, x14, x15, x16]) ?_ ?_ _ _ _ ⟨0, jk, _, _, _, _, rfl, rfl, rfl⟩
      · rintro d left2 r st' N2 hN2 ⟨b, jk, x12, x13, x14, x15, el2, rfl, rfl⟩
        obtain ⟨eb, lb2, e4⟩ := drop_cons el2.symm
        obtain ⟨ltb, rfl⟩ := rgD_get eb
        rw [Int.zero_add]
        have ltb' : b < ps.length := by omega
        have wa : atI (ps.map encT) (a : Int) = some (encT ps[a]) := at_map (List.getElem?_eq_getElem lta)
        have wb : atI (ps.map encT) (b : Int) = some (encT ps[b]) := at_map (List.getElem?_eq_getElem ltb')
        try simp only [e_var, e_C, e_op, e_neg, e_isN, e_notN, e_and, e_or, e_not, e_test, e_tAnd, e_tOr, e_tNot, e_tYes, e_if, e_aNil, e_aCons, e_tup, e_lst, e_lstN, e_len0, e_len1, e_len2, e_len3, e_len4, e_len5, e_cb, e_on1, e_on2, e_onI, e_onB, e_onO, e_onO0, e_onOO, e_I0, e_I, e_add, e_addT, e_addS, e_addL, e_addLR, e_addRL, e_addRR, e_mul, e_mulL, e_mulT, e_rev, e_revT, e_ix, e_eqI, e_eqS, e_eqB, e_neI, e_neS, e_neB, e_ltI, e_chain, e_len, e_abs, e_2I, e_tuple1, e_tuple2, e_tuple3, e_listT, e_listN, e_allR, e_seqT, e_seqK, e_seqL, e_isi, e_isB, e_notB, e_truth, e_next, e_drop, e_ret, e_retN, e_ifS, e_set, e_asg, e_par, e_nm, e_gsN, e_gsC, e_gTpK, e_gTpL, e_sum, e_maxL, e_minL, e_maxDef, e_int, e_intB, e_aug, e_on3, e_par3, e_newK, e_getK, e_keyI, e_keyS, e_inK, e_ninK, e_putK, e_lenK, e_lstS, e_seqX, e_gTpT, e_oN, e_oS, e_sl, e_slT, e_slL, e_finT, e_finN, e_index, e_idxT, e_idxL, e_mIx, e_ixST, e_ixSL, e_mtL, e_w, e_w1, e_w2, e_wE, e_wZ, e_itK, e_itT, e_itL, e_itT2, e_itL2, e_lc, e_for, e_wipe0, e_wipe, e_okI, e_okR, e_gSb, List.getElem?_cons_zero, List.getElem?_cons_succ, List.set_cons_zero, List.set_cons_succ]
        try dsimp only
        rw [e_seq]
        try simp only [e_var, e_C, e_op, e_neg, e_isN, e_notN, e_and, e_or, e_not, e_test, e_tAnd, e_tOr, e_tNot, e_tYes, e_if, e_aNil, e_aCons, e_tup, e_lst, e_lstN, e_len0, e_len1, e_len2, e_len3, e_len4, e_len5, e_cb, e_on1, e_on2, e_onI, e_onB, e_onO, e_onO0, e_onOO, e_I0, e_I, e_add, e_addT, e_addS, e_addL, e_addLR, e_addRL, e_addRR, e_mul, e_mulL, e_mulT, e_rev, e_revT, e_ix, e_eqI, e_eqS, e_eqB, e_neI, e_neS, e_neB, e_ltI, e_chain, e_len, e_abs, e_2I, e_tuple1, e_tuple2, e_tuple3, e_listT, e_listN, e_allR, e_seqT, e_seqK, e_seqL, e_isi, e_isB, e_notB, e_truth, e_next, e_drop, e_ret, e_retN, e_ifS, e_set, e_asg, e_par, e_nm, e_gsN, e_gsC, e_gTpK, e_gTpL, e_sum, e_maxL, e_minL, e_maxDef, e_int, e_intB, e_aug, e_on3, e_par3, e_newK, e_getK, e_keyI, e_keyS, e_inK, e_ninK, e_putK, e_lenK, e_lstS, e_seqX, e_gTpT, e_oN, e_oS, e_sl, e_slT, e_slL, e_finT, e_finN, e_index, e_idxT, e_idxL, e_mIx, e_ixST, e_ixSL, e_mtL, e_w, e_w1, e_w2, e_wE, e_wZ, e_itK, e_itT, e_itL, e_itT2, e_itL2, e_lc, e_for, e_wipe0, e_wipe, e_okI, e_okR, e_gSb, List.getElem?_cons_zero, List.getElem?_cons_succ, List.set_cons_zero, List.set_cons_succ]
        have ow : ∀ zs : List D, (st.set p o2 ++ jk ++ [O.lst zs])[(st.set p o2 ++ jk).length]? = some (.lst zs) := fun zs => by rw [List.getElem?_append_right (Nat.le_refl _), Nat.sub_self]; rfl
        have sw : ∀ zs ys : List D, (st.set p o2 ++ jk ++ [O.lst zs]).set (st.set p o2 ++ jk).length (.lst ys) = st.set p o2 ++ jk ++ [O.lst ys] := fun zs ys => by rw [List.set_append_right _ _ (Nat.le_refl _), Nat.sub_self]; rfl
        try dsimp only
        rw [e_seq]
        try simp only [e_var, e_C, e_op, e_neg, e_isN, e_notN, e_and, e_or, e_not, e_test, e_tAnd, e_tOr, e_tNot, e_tYes, e_if, e_aNil, e_aCons, e_tup, e_lst, e_lstN, e_len0, e_len1, e_len2, e_len3, e_len4, e_len5, e_cb, e_on1, e_on2, e_onI, e_onB, e_onO, e_onO0, e_onOO, e_I0, e_I, e_add, e_addT, e_addS, e_addL, e_addLR, e_addRL, e_addRR, e_mul, e_mulL, e_mulT, e_rev, e_revT, e_ix, e_eqI, e_eqS, e_eqB, e_neI, e_neS, e_neB, e_ltI, e_chain, e_len, e_abs, e_2I, e_tuple1, e_tuple2, e_tuple3, e_listT, e_listN, e_allR, e_seqT, e_seqK, e_seqL, e_isi, e_isB, e_notB, e_truth, e_next, e_drop, e_ret, e_retN, e_ifS, e_set, e_asg, e_par, e_nm, e_gsN, e_gsC, e_gTpK, e_gTpL, e_sum, e_maxL, e_minL, e_maxDef, e_int, e_intB, e_aug, e_on3, e_par3, e_newK, e_getK, e_keyI, e_keyS, e_inK, e_ninK, e_putK, e_lenK, e_lstS, e_seqX, e_gTpT, e_oN, e_oS, e_sl, e_slT, e_slL, e_finT, e_finN, e_index, e_idxT, e_idxL, e_mIx, e_ixST, e_ixSL, e_mtL, e_w, e_w1, e_w2, e_wE, e_wZ, e_itK, e_itT, e_itL, e_itT2, e_itL2, e_lc, e_for, e_wipe0, e_wipe, e_okI, e_okR, e_gSb, List.getElem?_cons_zero, List.getElem?_cons_succ, List.set_cons_zero, List.set_cons_succ, wa, wb, encT, atE0, atE1]
        refine ⟨rfl, ?_⟩
        rw [setS_ref (ow _), List.length_map, ixN_lt lta]
        try simp only [e_var, e_C, e_op, e_neg, e_isN, e_notN, e_and, e_or, e_not, e_test, e_tAnd, e_tOr, e_tNot, e_tYes, e_if, e_aNil, e_aCons, e_tup, e_lst, e_lstN, e_len0, e_len1, e_len2, e_len3, e_len4, e_len5, e_cb, e_on1, e_on2, e_onI, e_onB, e_onO, e_onO0, e_onOO, e_I0, e_I, e_add, e_addT, e_addS, e_addL, e_addLR, e_addRL, e_addRR, e_mul, e_mulL, e_mulT, e_rev, e_revT, e_ix, e_eqI, e_eqS, e_eqB, e_neI, e_neS, e_neB, e_ltI, e_chain, e_len, e_abs, e_2I, e_tuple1, e_tuple2, e_tuple3, e_listT, e_listN, e_allR, e_seqT, e_seqK, e_seqL, e_isi, e_isB, e_notB, e_truth, e_next, e_drop, e_ret, e_retN, e_ifS, e_set, e_asg, e_par, e_nm, e_gsN, e_gsC, e_gTpK, e_gTpL, e_sum, e_maxL, e_minL, e_maxDef, e_int, e_intB, e_aug, e_on3, e_par3, e_newK, e_getK, e_keyI, e_keyS, e_inK, e_ninK, e_putK, e_lenK, e_lstS, e_seqX, e_gTpT, e_oN, e_oS, e_sl, e_slT, e_slL, e_finT, e_finN, e_index, e_idxT, e_idxL, e_mIx, e_ixST, e_ixSL, e_mtL, e_w, e_w1, e_w2, e_wE, e_wZ, e_itK, e_itT, e_itL, e_itT2, e_itL2, e_lc, e_for, e_wipe0, e_wipe, e_okI, e_okR, e_gSb, List.getElem?_cons_zero, List.getElem?_cons_succ, List.set_cons_zero, List.set_cons_succ]
        rw [sw, setS_ref (ow _), List.length_set, List.length_map, ixN_lt ltb']
        try simp only [e_var, e_C, e_op, e_neg, e_isN, e_notN, e_and, e_or, e_not, e_test, e_tAnd, e_tOr, e_tNot, e_tYes, e_if, e_aNil, e_aCons, e_tup, e_lst, e_lstN, e_len0, e_len1, e_len2, e_len3, e_len4, e_len5, e_cb, e_on1, e_on2, e_onI, e_onB, e_onO, e_onO0, e_onOO, e_I0, e_I, e_add, e_addT, e_addS, e_addL, e_addLR, e_addRL, e_addRR, e_mul, e_mulL, e_mulT, e_rev, e_revT, e_ix, e_eqI, e_eqS, e_eqB, e_neI, e_neS, e_neB, e_ltI, e_chain, e_len, e_abs, e_2I, e_tuple1, e_tuple2, e_tuple3, e_listT, e_listN, e_allR, e_seqT, e_seqK, e_seqL, e_isi, e_isB, e_notB, e_truth, e_next, e_drop, e_ret, e_retN, e_ifS, e_set, e_asg, e_par, e_nm, e_gsN, e_gsC, e_gTpK, e_gTpL, e_sum, e_maxL, e_minL, e_maxDef, e_int, e_intB, e_aug, e_on3, e_par3, e_newK, e_getK, e_keyI, e_keyS, e_inK, e_ninK, e_putK, e_lenK, e_lstS, e_seqX, e_gTpT, e_oN, e_oS, e_sl, e_slT, e_slL, e_finT, e_finN, e_index, e_idxT, e_idxL, e_mIx, e_ixST, e_ixSL, e_mtL, e_w, e_w1, e_w2, e_wE, e_wZ, e_itK, e_itT, e_itL, e_itT2, e_itL2, e_lc, e_for, e_wipe0, e_wipe, e_okI, e_okR, e_gSb, List.getElem?_cons_zero, List.getElem?_cons_succ, List.set_cons_zero, List.set_cons_succ]
        rw [sw]
        have em : ((ps.map encT).set a (D.tup [D.int (ps[a].1 : Nat), D.int (ps[b].2 : Nat)])).set b (D.tup [D.int (ps[b].1 : Nat), D.int (ps[a].2 : Nat)]) = ((ps.set a (ps[a].1, ps[b].2)).set b (ps[b].1, ps[a].2)).map encT := by
          rw [List.map_set, List.map_set]
          rfl
        rw [em]
        have Wq := W.swap lta ltb'
        generalize (ps.set a (ps[a].1, ps[b].2)).set b (ps[b].1, ps[a].2) = qs at Wq
        obtain ⟨g1, g2⟩ := best _ Wq
        try dsimp only
        rw [e_seq]
        try simp only [e_var, e_C, e_op, e_neg, e_isN, e_notN, e_and, e_or, e_not, e_test, e_tAnd, e_tOr, e_tNot, e_tYes, e_if, e_aNil, e_aCons, e_tup, e_lst, e_lstN, e_len0, e_len1, e_len2, e_len3, e_len4, e_len5, e_cb, e_on1, e_on2, e_onI, e_onB, e_onO, e_onO0, e_onOO, e_I0, e_I, e_add, e_addT, e_addS, e_addL, e_addLR, e_addRL, e_addRR, e_mul, e_mulL, e_mulT, e_rev, e_revT, e_ix, e_eqI, e_eqS, e_eqB, e_neI, e_neS, e_neB, e_ltI, e_chain, e_len, e_abs, e_2I, e_tuple1, e_tuple2, e_tuple3, e_listT, e_listN, e_allR, e_seqT, e_seqK, e_seqL, e_isi, e_isB, e_notB, e_truth, e_next, e_drop, e_ret, e_retN, e_ifS, e_set, e_asg, e_par, e_nm, e_gsN, e_gsC, e_gTpK, e_gTpL, e_sum, e_maxL, e_minL, e_maxDef, e_int, e_intB, e_aug, e_on3, e_par3, e_newK, e_getK, e_keyI, e_keyS, e_inK, e_ninK, e_putK, e_lenK, e_lstS, e_seqX, e_gTpT, e_oN, e_oS, e_sl, e_slT, e_slL, e_finT, e_finN, e_index, e_idxT, e_idxL, e_mIx, e_ixST, e_ixSL, e_mtL, e_w, e_w1, e_w2, e_wE, e_wZ, e_itK, e_itT, e_itL, e_itT2, e_itL2, e_lc, e_for, e_wipe0, e_wipe, e_okI, e_okR, e_gSb, List.getElem?_cons_zero, List.getElem?_cons_succ, List.set_cons_zero, List.set_cons_succ]
        refine ⟨n, hs, qs, _, qs.map encT, rfl, .inr ⟨_, rfl, ow _⟩, f2_encT qs, fun p hp => by rw [lh]; exact Wq.lt.2 p hp, hlt, n0, by omega, by rw [Wq.lt.1]; omega, ?_⟩
        try simp only [e_var, e_C, e_op, e_neg, e_isN, e_notN, e_and, e_or, e_not, e_test, e_tAnd, e_tOr, e_tNot, e_tYes, e_if, e_aNil, e_aCons, e_tup, e_lst, e_lstN, e_len0, e_len1, e_len2, e_len3, e_len4, e_len5, e_cb, e_on1, e_on2, e_onI, e_onB, e_onO, e_onO0, e_onOO, e_I0, e_I, e_add, e_addT, e_addS, e_addL, e_addLR, e_addRL, e_addRR, e_mul, e_mulL, e_mulT, e_rev, e_revT, e_ix, e_eqI, e_eqS, e_eqB, e_neI, e_neS, e_neB, e_ltI, e_chain, e_len, e_abs, e_2I, e_tuple1, e_tuple2, e_tuple3, e_listT, e_listN, e_allR, e_seqT, e_seqK, e_seqL, e_isi, e_isB, e_notB, e_truth, e_next, e_drop, e_ret, e_retN, e_ifS, e_set, e_asg, e_par, e_nm, e_gsN, e_gsC, e_gTpK, e_gTpL, e_sum, e_maxL, e_minL, e_maxDef, e_int, e_intB, e_aug, e_on3, e_par3, e_newK, e_getK, e_keyI, e_keyS, e_inK, e_ninK, e_putK, e_lenK, e_lstS, e_seqX, e_gTpT, e_oN, e_oS, e_sl, e_slT, e_slL, e_finT, e_finN, e_index, e_idxT, e_idxL, e_mIx, e_ixST, e_ixSL, e_mtL, e_w, e_w1, e_w2, e_wE, e_wZ, e_itK, e_itT, e_itL, e_itT2, e_itL2, e_lc, e_for, e_wipe0, e_wipe, e_okI, e_okR, e_gSb, List.getElem?_cons_zero, List.getElem?_cons_succ, List.set_cons_zero, List.set_cons_succ]
        refine ⟨rfl, ?_⟩
        try simp only [e_var, e_C, e_op, e_neg, e_isN, e_notN, e_and, e_or, e_not, e_test, e_tAnd, e_tOr, e_tNot, e_tYes, e_if, e_aNil, e_aCons, e_tup, e_lst, e_lstN, e_len0, e_len1, e_len2, e_len3, e_len4, e_len5, e_cb, e_on1, e_on2, e_onI, e_onB, e_onO, e_onO0, e_onOO, e_I0, e_I, e_add, e_addT, e_addS, e_addL, e_addLR, e_addRL, e_addRR, e_mul, e_mulL, e_mulT, e_rev, e_revT, e_ix, e_eqI, e_eqS, e_eqB, e_neI, e_neS, e_neB, e_ltI, e_chain, e_len, e_abs, e_2I, e_tuple1, e_tuple2, e_tuple3, e_listT, e_listN, e_allR, e_seqT, e_seqK, e_seqL, e_isi, e_isB, e_notB, e_truth, e_next, e_drop, e_ret, e_retN, e_ifS, e_set, e_asg, e_par, e_nm, e_gsN, e_gsC, e_gTpK, e_gTpL, e_sum, e_maxL, e_minL, e_maxDef, e_int, e_intB, e_aug, e_on3, e_par3, e_newK, e_getK, e_keyI, e_keyS, e_inK, e_ninK, e_putK, e_lenK, e_lstS, e_seqX, e_gTpT, e_oN, e_oS, e_sl, e_slT, e_slL, e_finT, e_finN, e_index, e_idxT, e_idxL, e_mIx, e_ixST, e_ixSL, e_mtL, e_w, e_w1, e_w2, e_wE, e_wZ, e_itK, e_itT, e_itL, e_itT2, e_itL2, e_lc, e_for, e_wipe0, e_wipe, e_okI, e_okR, e_gSb, List.getElem?_cons_zero, List.getElem?_cons_succ, List.set_cons_zero, List.set_cons_succ, atE0, atE1]
        rw [decide_eq_false (by omega), decide_eq_false (by omega)]
        refine iteF ?_
        refine iteF ?_
        exact hN2 _ _ (.inl ⟨b + 1, jk ++ [O.lst (qs.map encT)], _, _, _, _, e4.symm, by rw [List.append_assoc], rfl⟩)
      · rintro r st' ⟨b, jk, x12, x13, x14, x15, el2, rfl, rfl⟩
        try simp only [e_var, e_C, e_op, e_neg, e_isN, e_notN, e_and, e_or, e_not, e_test, e_tAnd, e_tOr, e_tNot, e_tYes, e_if, e_aNil, e_aCons, e_tup, e_lst, e_lstN, e_len0, e_len1, e_len2, e_len3, e_len4, e_len5, e_cb, e_on1, e_on2, e_onI, e_onB, e_onO, e_onO0, e_onOO, e_I0, e_I, e_add, e_addT, e_addS, e_addL, e_addLR, e_addRL, e_addRR, e_mul, e_mulL, e_mulT, e_rev, e_revT, e_ix, e_eqI, e_eqS, e_eqB, e_neI, e_neS, e_neB, e_ltI, e_chain, e_len, e_abs, e_2I, e_tuple1, e_tuple2, e_tuple3, e_listT, e_listN, e_allR, e_seqT, e_seqK, e_seqL, e_isi, e_isB, e_notB, e_truth, e_next, e_drop, e_ret, e_retN, e_ifS, e_set, e_asg, e_par, e_nm, e_gsN, e_gsC, e_gTpK, e_gTpL, e_sum, e_maxL, e_minL, e_maxDef, e_int, e_intB, e_aug, e_on3, e_par3, e_newK, e_getK, e_keyI, e_keyS, e_inK, e_ninK, e_putK, e_lenK, e_lstS, e_seqX, e_gTpT, e_oN, e_oS, e_sl, e_slT, e_slL, e_finT, e_finN, e_index, e_idxT, e_idxL, e_mIx, e_ixST, e_ixSL, e_mtL, e_w, e_w1, e_w2, e_wE, e_wZ, e_itK, e_itT, e_itL, e_itT2, e_itL2, e_lc, e_for, e_wipe0, e_wipe, e_okI, e_okR, e_gSb, List.getElem?_cons_zero, List.getElem?_cons_succ, List.set_cons_zero, List.set_cons_succ]
        exact hN _ _ (.inl ⟨a + 1, jk, _, _, _, _, _, e3.symm, rfl, rfl⟩)
    · rintro r st' ⟨a, jk, x8, x12, x13, x14, x15, el, rfl, rfl⟩
      try simp only [e_var, e_C, e_op, e_neg, e_isN, e_notN, e_and, e_or, e_not, e_test, e_tAnd, e_tOr, e_tNot, e_tYes, e_if, e_aNil, e_aCons, e_tup, e_lst, e_lstN, e_len0, e_len1, e_len2, e_len3, e_len4, e_len5, e_cb, e_on1, e_on2, e_onI, e_onB, e_onO, e_onO0, e_onOO, e_I0, e_I, e_add, e_addT, e_addS, e_addL, e_addLR, e_addRL, e_addRR, e_mul, e_mulL, e_mulT, e_rev, e_revT, e_ix, e_eqI, e_eqS, e_eqB, e_neI, e_neS, e_neB, e_ltI, e_chain, e_len, e_abs, e_2I, e_tuple1, e_tuple2, e_tuple3, e_listT, e_listN, e_allR, e_seqT, e_seqK, e_seqL, e_isi, e_isB, e_notB, e_truth, e_next, e_drop, e_ret, e_retN, e_ifS, e_set, e_asg, e_par, e_nm, e_gsN, e_gsC, e_gTpK, e_gTpL, e_sum, e_maxL, e_minL, e_maxDef, e_int, e_intB, e_aug, e_on3, e_par3, e_newK, e_getK, e_keyI, e_keyS, e_inK, e_ninK, e_putK, e_lenK, e_lstS, e_seqX, e_gTpT, e_oN, e_oS, e_sl, e_slT, e_slL, e_finT, e_finN, e_index, e_idxT, e_idxL, e_mIx, e_ixST, e_ixSL, e_mtL, e_w, e_w1, e_w2, e_wE, e_wZ, e_itK, e_itT, e_itL, e_itT2, e_itL2, e_lc, e_for, e_wipe0, e_wipe, e_okI, e_okR, e_gSb, List.getElem?_cons_zero, List.getElem?_cons_succ, List.set_cons_zero, List.set_cons_succ]
      exact rt_drop List.length_set rfl (cst o2 _ po2) (q o2 (po2.less (by omega)))
  by_cases m7 : m < 7
  · try dsimp only
    rw [e_seq]
    try simp only [e_var, e_C, e_op, e_neg, e_isN, e_notN, e_and, e_or, e_not, e_test, e_tAnd, e_tOr, e_tNot, e_tYes, e_if, e_aNil, e_aCons, e_tup, e_lst, e_lstN, e_len0, e_len1, e_len2, e_len3, e_len4, e_len5, e_cb, e_on1, e_on2, e_onI, e_onB, e_onO, e_onO0, e_onOO, e_I0, e_I, e_add, e_addT, e_addS, e_addL, e_addLR, e_addRL, e_addRR, e_mul, e_mulL, e_mulT, e_rev, e_revT, e_ix, e_eqI, e_eqS, e_eqB, e_neI, e_neS, e_neB, e_ltI, e_chain, e_len, e_abs, e_2I, e_tuple1, e_tuple2, e_tuple3, e_listT, e_listN, e_allR, e_seqT, e_seqK, e_seqL, e_isi, e_isB, e_notB, e_truth, e_next, e_drop, e_ret, e_retN, e_ifS, e_set, e_asg, e_par, e_nm, e_gsN, e_gsC, e_gTpK, e_gTpL, e_sum, e_maxL, e_minL, e_maxDef, e_int, e_intB, e_aug, e_on3, e_par3, e_newK, e_getK, e_keyI, e_keyS, e_inK, e_ninK, e_putK, e_lenK, e_lstS, e_seqX, e_gTpT, e_oN, e_oS, e_sl, e_slT, e_slL, e_finT, e_finN, e_index, e_idxT, e_idxL, e_mIx, e_ixST, e_ixSL, e_mtL, e_w, e_w1, e_w2, e_wE, e_wZ, e_itK, e_itT, e_itL, e_itT2, e_itL2, e_lc, e_for, e_wipe0, e_wipe, e_okI, e_okR, e_gSb, List.getElem?_cons_zero, List.getElem?_cons_succ, List.set_cons_zero, List.set_cons_succ]
    refine iteT' (decide_eq_true (by omega)) ?_
    refine ⟨c, rfl, hc, ?_⟩
    refine ⟨m, takenI c, rfl, m1, by omega, by omega, fun Ws al wl => ?_⟩
    try simp only [e_var, e_C, e_op, e_neg, e_isN, e_notN, e_and, e_or, e_not, e_test, e_tAnd, e_tOr, e_tNot, e_tYes, e_if, e_aNil, e_aCons, e_tup, e_lst, e_lstN, e_len0, e_len1, e_len2, e_len3, e_len4, e_len5, e_cb, e_on1, e_on2, e_onI, e_onB, e_onO, e_onO0, e_onOO, e_I0, e_I, e_add, e_addT, e_addS, e_addL, e_addLR, e_addRL, e_addRR, e_mul, e_mulL, e_mulT, e_rev, e_revT, e_ix, e_eqI, e_eqS, e_eqB, e_neI, e_neS, e_neB, e_ltI, e_chain, e_len, e_abs, e_2I, e_tuple1, e_tuple2, e_tuple3, e_listT, e_listN, e_allR, e_seqT, e_seqK, e_seqL, e_isi, e_isB, e_notB, e_truth, e_next, e_drop, e_ret, e_retN, e_ifS, e_set, e_asg, e_par, e_nm, e_gsN, e_gsC, e_gTpK, e_gTpL, e_sum, e_maxL, e_minL, e_maxDef, e_int, e_intB, e_aug, e_on3, e_par3, e_newK, e_getK, e_keyI, e_keyS, e_inK, e_ninK, e_putK, e_lenK, e_lstS, e_seqX, e_gTpT, e_oN, e_oS, e_sl, e_slT, e_slL, e_finT, e_finN, e_index, e_idxT, e_idxL, e_mIx, e_ixST, e_ixSL, e_mtL, e_w, e_w1, e_w2, e_wE, e_wZ, e_itK, e_itT, e_itL, e_itT2, e_itL2, e_lc, e_for, e_wipe0, e_wipe, e_okI, e_okR, e_gSb, List.getElem?_cons_zero, List.getElem?_cons_succ, List.set_cons_zero, List.set_cons_succ]
    refine for_list rowD (fun left r st' => ∃ (dn : List (List Int)) (x11 x12 x13 : Option D), Ws = dn ++ left ∧ st' = st.set p o2 ∧ r = [some (.ref p), some (.int (m : Nat)), some (.int (n : Nat)), some (.lst (hL hs)), some (rowsD (lineP n hs)), some (tabsD (farR n (lineP n hs))), some (rowD sl), some (rowD c), none, some (.lst (ps.map encT)), some (.tup [.int (maxI (waitsI c)), .int (sqSum (waitsI c))]), x11, x12, x13, none, none, none]) ?_ ?_ _ _ _ ⟨[], _, _, _, rfl, rfl, rfl⟩
    · rintro w left r st' N hN ⟨dn, x11, x12, x13, eW, rfl, rfl⟩
      obtain ⟨w1, w2, w3⟩ := al w (by rw [eW]; simp)
      have wn : ∀ x ∈ w, 0 ≤ x := fun x hx => by obtain ⟨s, rfl, _⟩ := tkm x (w3 x hx); omega
      have Wq : Way m n c ((List.range m).zip (w.map Int.toNat)) := W.all (by rw [List.length_map, w1]) (by
        refine List.pairwise_map.mpr (List.Pairwise.imp_of_mem (fun {a b} ha hb ne e => ne ?_) w2)
        have := wn a ha
        have := wn b hb
        omega) fun s hs' => by
        obtain ⟨x, hx, rfl⟩ := List.mem_map.mp hs'
        obtain ⟨s, rfl, ls, t⟩ := tkm x (w3 x hx)
        exact ⟨by rw [Int.toNat_natCast]; exact ls, by rw [Int.toNat_natCast]; exact t⟩
      obtain ⟨g1, g2⟩ := best _ Wq
      have rw_ : ∀ x : List Int, rowD x = .tup (x.map D.int) := fun _ => rfl
      try simp only [e_var, e_C, e_op, e_neg, e_isN, e_notN, e_and, e_or, e_not, e_test, e_tAnd, e_tOr, e_tNot, e_tYes, e_if, e_aNil, e_aCons, e_tup, e_lst, e_lstN, e_len0, e_len1, e_len2, e_len3, e_len4, e_len5, e_cb, e_on1, e_on2, e_onI, e_onB, e_onO, e_onO0, e_onOO, e_I0, e_I, e_add, e_addT, e_addS, e_addL, e_addLR, e_addRL, e_addRR, e_mul, e_mulL, e_mulT, e_rev, e_revT, e_ix, e_eqI, e_eqS, e_eqB, e_neI, e_neS, e_neB, e_ltI, e_chain, e_len, e_abs, e_2I, e_tuple1, e_tuple2, e_tuple3, e_listT, e_listN, e_allR, e_seqT, e_seqK, e_seqL, e_isi, e_isB, e_notB, e_truth, e_next, e_drop, e_ret, e_retN, e_ifS, e_set, e_asg, e_par, e_nm, e_gsN, e_gsC, e_gTpK, e_gTpL, e_sum, e_maxL, e_minL, e_maxDef, e_int, e_intB, e_aug, e_on3, e_par3, e_newK, e_getK, e_keyI, e_keyS, e_inK, e_ninK, e_putK, e_lenK, e_lstS, e_seqX, e_gTpT, e_oN, e_oS, e_sl, e_slT, e_slL, e_finT, e_finN, e_index, e_idxT, e_idxL, e_mIx, e_ixST, e_ixSL, e_mtL, e_w, e_w1, e_w2, e_wE, e_wZ, e_itK, e_itT, e_itL, e_itT2, e_itL2, e_lc, e_for, e_wipe0, e_wipe, e_okI, e_okR, e_gSb, List.getElem?_cons_zero, List.getElem?_cons_succ, List.set_cons_zero, List.set_cons_succ]
      try dsimp only
      rw [e_seq]
      try simp only [e_var, e_C, e_op, e_neg, e_isN, e_notN, e_and, e_or, e_not, e_test, e_tAnd, e_tOr, e_tNot, e_tYes, e_if, e_aNil, e_aCons, e_tup, e_lst, e_lstN, e_len0, e_len1, e_len2, e_len3, e_len4, e_len5, e_cb, e_on1, e_on2, e_onI, e_onB, e_onO, e_onO0, e_onOO, e_I0, e_I, e_add, e_addT, e_addS, e_addL, e_addLR, e_addRL, e_addRR, e_mul, e_mulL, e_mulT, e_rev, e_revT, e_ix, e_eqI, e_eqS, e_eqB, e_neI, e_neS, e_neB, e_ltI, e_chain, e_len, e_abs, e_2I, e_tuple1, e_tuple2, e_tuple3, e_listT, e_listN, e_allR, e_seqT, e_seqK, e_seqL, e_isi, e_isB, e_notB, e_truth, e_next, e_drop, e_ret, e_retN, e_ifS, e_set, e_asg, e_par, e_nm, e_gsN, e_gsC, e_gTpK, e_gTpL, e_sum, e_maxL, e_minL, e_maxDef, e_int, e_intB, e_aug, e_on3, e_par3, e_newK, e_getK, e_keyI, e_keyS, e_inK, e_ninK, e_putK, e_lenK, e_lstS, e_seqX, e_gTpT, e_oN, e_oS, e_sl, e_slT, e_slL, e_finT, e_finN, e_index, e_idxT, e_idxL, e_mIx, e_ixST, e_ixSL, e_mtL, e_w, e_w1, e_w2, e_wE, e_wZ, e_itK, e_itT, e_itL, e_itT2, e_itL2, e_lc, e_for, e_wipe0, e_wipe, e_okI, e_okR, e_gSb, List.getElem?_cons_zero, List.getElem?_cons_succ, List.set_cons_zero, List.set_cons_succ, rw_ w]
      refine ⟨n, hs, _, _, _, rfl, .inl rfl, f2_enum w1 wn, fun p hp => by rw [lh]; exact Wq.lt.2 p hp, hlt, n0, by omega, by rw [Wq.lt.1]; omega, ?_⟩
      try simp only [e_var, e_C, e_op, e_neg, e_isN, e_notN, e_and, e_or, e_not, e_test, e_tAnd, e_tOr, e_tNot, e_tYes, e_if, e_aNil, e_aCons, e_tup, e_lst, e_lstN, e_len0, e_len1, e_len2, e_len3, e_len4, e_len5, e_cb, e_on1, e_on2, e_onI, e_onB, e_onO, e_onO0, e_onOO, e_I0, e_I, e_add, e_addT, e_addS, e_addL, e_addLR, e_addRL, e_addRR, e_mul, e_mulL, e_mulT, e_rev, e_revT, e_ix, e_eqI, e_eqS, e_eqB, e_neI, e_neS, e_neB, e_ltI, e_chain, e_len, e_abs, e_2I, e_tuple1, e_tuple2, e_tuple3, e_listT, e_listN, e_allR, e_seqT, e_seqK, e_seqL, e_isi, e_isB, e_notB, e_truth, e_next, e_drop, e_ret, e_retN, e_ifS, e_set, e_asg, e_par, e_nm, e_gsN, e_gsC, e_gTpK, e_gTpL, e_sum, e_maxL, e_minL, e_maxDef, e_int, e_intB, e_aug, e_on3, e_par3, e_newK, e_getK, e_keyI, e_keyS, e_inK, e_ninK, e_putK, e_lenK, e_lstS, e_seqX, e_gTpT, e_oN, e_oS, e_sl, e_slT, e_slL, e_finT, e_finN, e_index, e_idxT, e_idxL, e_mIx, e_ixST, e_ixSL, e_mtL, e_w, e_w1, e_w2, e_wE, e_wZ, e_itK, e_itT, e_itL, e_itT2, e_itL2, e_lc, e_for, e_wipe0, e_wipe, e_okI, e_okR, e_gSb, List.getElem?_cons_zero, List.getElem?_cons_succ, List.set_cons_zero, List.set_cons_succ]
      refine ⟨rfl, ?_⟩
      try simp only [e_var, e_C, e_op, e_neg, e_isN, e_notN, e_and, e_or, e_not, e_test, e_tAnd, e_tOr, e_tNot, e_tYes, e_if, e_aNil, e_aCons, e_tup, e_lst, e_lstN, e_len0, e_len1, e_len2, e_len3, e_len4, e_len5, e_cb, e_on1, e_on2, e_onI, e_onB, e_onO, e_onO0, e_onOO, e_I0, e_I, e_add, e_addT, e_addS, e_addL, e_addLR, e_addRL, e_addRR, e_mul, e_mulL, e_mulT, e_rev, e_revT, e_ix, e_eqI, e_eqS, e_eqB, e_neI, e_neS, e_neB, e_ltI, e_chain, e_len, e_abs, e_2I, e_tuple1, e_tuple2, e_tuple3, e_listT, e_listN, e_allR, e_seqT, e_seqK, e_seqL, e_isi, e_isB, e_notB, e_truth, e_next, e_drop, e_ret, e_retN, e_ifS, e_set, e_asg, e_par, e_nm, e_gsN, e_gsC, e_gTpK, e_gTpL, e_sum, e_maxL, e_minL, e_maxDef, e_int, e_intB, e_aug, e_on3, e_par3, e_newK, e_getK, e_keyI, e_keyS, e_inK, e_ninK, e_putK, e_lenK, e_lstS, e_seqX, e_gTpT, e_oN, e_oS, e_sl, e_slT, e_slL, e_finT, e_finN, e_index, e_idxT, e_idxL, e_mIx, e_ixST, e_ixSL, e_mtL, e_w, e_w1, e_w2, e_wE, e_wZ, e_itK, e_itT, e_itL, e_itT2, e_itL2, e_lc, e_for, e_wipe0, e_wipe, e_okI, e_okR, e_gSb, List.getElem?_cons_zero, List.getElem?_cons_succ, List.set_cons_zero, List.set_cons_succ, atE0, atE1]
      rw [decide_eq_false (by omega), decide_eq_false (by omega)]
      refine iteF ?_
      refine iteF ?_
      exact hN _ _ (.inl ⟨dn ++ [w], _, _, _, by rw [eW]; simp, rfl, rfl⟩)
    · rintro r st' ⟨dn, x11, x12, x13, eW, rfl, rfl⟩
      exact tail _ _ _ _ _ _ _
  · try dsimp only
    rw [e_seq]
    try simp only [e_var, e_C, e_op, e_neg, e_isN, e_notN, e_and, e_or, e_not, e_test, e_tAnd, e_tOr, e_tNot, e_tYes, e_if, e_aNil, e_aCons, e_tup, e_lst, e_lstN, e_len0, e_len1, e_len2, e_len3, e_len4, e_len5, e_cb, e_on1, e_on2, e_onI, e_onB, e_onO, e_onO0, e_onOO, e_I0, e_I, e_add, e_addT, e_addS, e_addL, e_addLR, e_addRL, e_addRR, e_mul, e_mulL, e_mulT, e_rev, e_revT, e_ix, e_eqI, e_eqS, e_eqB, e_neI, e_neS, e_neB, e_ltI, e_chain, e_len, e_abs, e_2I, e_tuple1, e_tuple2, e_tuple3, e_listT, e_listN, e_allR, e_seqT, e_seqK, e_seqL, e_isi, e_isB, e_notB, e_truth, e_next, e_drop, e_ret, e_retN, e_ifS, e_set, e_asg, e_par, e_nm, e_gsN, e_gsC, e_gTpK, e_gTpL, e_sum, e_maxL, e_minL, e_maxDef, e_int, e_intB, e_aug, e_on3, e_par3, e_newK, e_getK, e_keyI, e_keyS, e_inK, e_ninK, e_putK, e_lenK, e_lstS, e_seqX, e_gTpT, e_oN, e_oS, e_sl, e_slT, e_slL, e_finT, e_finN, e_index, e_idxT, e_idxL, e_mIx, e_ixST, e_ixSL, e_mtL, e_w, e_w1, e_w2, e_wE, e_wZ, e_itK, e_itT, e_itL, e_itT2, e_itL2, e_lc, e_for, e_wipe0, e_wipe, e_okI, e_okR, e_gSb, List.getElem?_cons_zero, List.getElem?_cons_succ, List.set_cons_zero, List.set_cons_succ]
    refine iteF' (decide_eq_false (by omega)) ?_
    exact tail _ _ _ _ _ _ _
set_option maxHeartbeats 4000000 in
theorem sem_right70 (ds : List D) (st : DSt) (Q : DK) (h : g_right ds st Q) : F__law_right_v21 g_take g_setR { nx := fun _ st' => Rt st Q .non st', rt := Rt st Q } (startD 3 ds) st := by
  obtain ⟨p, rfl, pot, q⟩ := h
  have lt := pot.lt
  obtain ⟨o0, e0, po0⟩ := pot
  have st3 : startD 3 [D.ref p] = [some (.ref p), none, none] := rfl
  simp only [F__law_right_v21, st3]
  try dsimp only
  rw [e_seq]
  try simp only [e_var, e_C, e_op, e_neg, e_isN, e_notN, e_and, e_or, e_not, e_test, e_tAnd, e_tOr, e_tNot, e_tYes, e_if, e_aNil, e_aCons, e_tup, e_lst, e_lstN, e_len0, e_len1, e_len2, e_len3, e_len4, e_len5, e_cb, e_on1, e_on2, e_onI, e_onB, e_onO, e_onO0, e_onOO, e_I0, e_I, e_add, e_addT, e_addS, e_addL, e_addLR, e_addRL, e_addRR, e_mul, e_mulL, e_mulT, e_rev, e_revT, e_ix, e_eqI, e_eqS, e_eqB, e_neI, e_neS, e_neB, e_ltI, e_chain, e_len, e_abs, e_2I, e_tuple1, e_tuple2, e_tuple3, e_listT, e_listN, e_allR, e_seqT, e_seqK, e_seqL, e_isi, e_isB, e_notB, e_truth, e_next, e_drop, e_ret, e_retN, e_ifS, e_set, e_asg, e_par, e_nm, e_gsN, e_gsC, e_gTpK, e_gTpL, e_sum, e_maxL, e_minL, e_maxDef, e_int, e_intB, e_aug, e_on3, e_par3, e_newK, e_getK, e_keyI, e_keyS, e_inK, e_ninK, e_putK, e_lenK, e_lstS, e_seqX, e_gTpT, e_oN, e_oS, e_sl, e_slT, e_slL, e_finT, e_finN, e_index, e_idxT, e_idxL, e_mIx, e_ixST, e_ixSL, e_mtL, e_w, e_w1, e_w2, e_wE, e_wZ, e_itK, e_itT, e_itL, e_itT2, e_itL2, e_lc, e_for, e_wipe0, e_wipe, e_okI, e_okR, e_gSb, List.getElem?_cons_zero, List.getElem?_cons_succ, List.set_cons_zero, List.set_cons_succ]
  refine ⟨⟨by decide, by decide⟩, ?_⟩
  refine for_inv (fun left r st' => ∃ (o : O) (x1 x2 : Option D), r = [some (.ref p), x1, x2] ∧ st' = st.set p o ∧ PotO (5000 + left.length * 5000) o) ?_ ?_ _ _ _ ⟨o0, _, _, rfl, (set_same e0).symm, po0.less (by rw [rgD_length]; decide)⟩
  · rintro d left r st' N hN ⟨o, x1, x2, rfl, rfl, po⟩
    rw [List.length_cons] at po
    try simp only [e_var, e_C, e_op, e_neg, e_isN, e_notN, e_and, e_or, e_not, e_test, e_tAnd, e_tOr, e_tNot, e_tYes, e_if, e_aNil, e_aCons, e_tup, e_lst, e_lstN, e_len0, e_len1, e_len2, e_len3, e_len4, e_len5, e_cb, e_on1, e_on2, e_onI, e_onB, e_onO, e_onO0, e_onOO, e_I0, e_I, e_add, e_addT, e_addS, e_addL, e_addLR, e_addRL, e_addRR, e_mul, e_mulL, e_mulT, e_rev, e_revT, e_ix, e_eqI, e_eqS, e_eqB, e_neI, e_neS, e_neB, e_ltI, e_chain, e_len, e_abs, e_2I, e_tuple1, e_tuple2, e_tuple3, e_listT, e_listN, e_allR, e_seqT, e_seqK, e_seqL, e_isi, e_isB, e_notB, e_truth, e_next, e_drop, e_ret, e_retN, e_ifS, e_set, e_asg, e_par, e_nm, e_gsN, e_gsC, e_gTpK, e_gTpL, e_sum, e_maxL, e_minL, e_maxDef, e_int, e_intB, e_aug, e_on3, e_par3, e_newK, e_getK, e_keyI, e_keyS, e_inK, e_ninK, e_putK, e_lenK, e_lstS, e_seqX, e_gTpT, e_oN, e_oS, e_sl, e_slT, e_slL, e_finT, e_finN, e_index, e_idxT, e_idxL, e_mIx, e_ixST, e_ixSL, e_mtL, e_w, e_w1, e_w2, e_wE, e_wZ, e_itK, e_itT, e_itL, e_itT2, e_itL2, e_lc, e_for, e_wipe0, e_wipe, e_okI, e_okR, e_gSb, List.getElem?_cons_zero, List.getElem?_cons_succ, List.set_cons_zero, List.set_cons_succ]
    try dsimp only
    rw [e_seq]
    try simp only [e_var, e_C, e_op, e_neg, e_isN, e_notN, e_and, e_or, e_not, e_test, e_tAnd, e_tOr, e_tNot, e_tYes, e_if, e_aNil, e_aCons, e_tup, e_lst, e_lstN, e_len0, e_len1, e_len2, e_len3, e_len4, e_len5, e_cb, e_on1, e_on2, e_onI, e_onB, e_onO, e_onO0, e_onOO, e_I0, e_I, e_add, e_addT, e_addS, e_addL, e_addLR, e_addRL, e_addRR, e_mul, e_mulL, e_mulT, e_rev, e_revT, e_ix, e_eqI, e_eqS, e_eqB, e_neI, e_neS, e_neB, e_ltI, e_chain, e_len, e_abs, e_2I, e_tuple1, e_tuple2, e_tuple3, e_listT, e_listN, e_allR, e_seqT, e_seqK, e_seqL, e_isi, e_isB, e_notB, e_truth, e_next, e_drop, e_ret, e_retN, e_ifS, e_set, e_asg, e_par, e_nm, e_gsN, e_gsC, e_gTpK, e_gTpL, e_sum, e_maxL, e_minL, e_maxDef, e_int, e_intB, e_aug, e_on3, e_par3, e_newK, e_getK, e_keyI, e_keyS, e_inK, e_ninK, e_putK, e_lenK, e_lstS, e_seqX, e_gTpT, e_oN, e_oS, e_sl, e_slT, e_slL, e_finT, e_finN, e_index, e_idxT, e_idxL, e_mIx, e_ixST, e_ixSL, e_mtL, e_w, e_w1, e_w2, e_wE, e_wZ, e_itK, e_itT, e_itL, e_itT2, e_itL2, e_lc, e_for, e_wipe0, e_wipe, e_okI, e_okR, e_gSb, List.getElem?_cons_zero, List.getElem?_cons_succ, List.set_cons_zero, List.set_cons_succ]
    refine take_ev (n := 5000 + left.length * 5000 + 4999) (Pot.set lt (po.less (by omega))) (by decide) (by decide) fun n0 o1 ln po1 => ?_
    rw [List.set_set]
    try simp only [e_var, e_C, e_op, e_neg, e_isN, e_notN, e_and, e_or, e_not, e_test, e_tAnd, e_tOr, e_tNot, e_tYes, e_if, e_aNil, e_aCons, e_tup, e_lst, e_lstN, e_len0, e_len1, e_len2, e_len3, e_len4, e_len5, e_cb, e_on1, e_on2, e_onI, e_onB, e_onO, e_onO0, e_onOO, e_I0, e_I, e_add, e_addT, e_addS, e_addL, e_addLR, e_addRL, e_addRR, e_mul, e_mulL, e_mulT, e_rev, e_revT, e_ix, e_eqI, e_eqS, e_eqB, e_neI, e_neS, e_neB, e_ltI, e_chain, e_len, e_abs, e_2I, e_tuple1, e_tuple2, e_tuple3, e_listT, e_listN, e_allR, e_seqT, e_seqK, e_seqL, e_isi, e_isB, e_notB, e_truth, e_next, e_drop, e_ret, e_retN, e_ifS, e_set, e_asg, e_par, e_nm, e_gsN, e_gsC, e_gTpK, e_gTpL, e_sum, e_maxL, e_minL, e_maxDef, e_int, e_intB, e_aug, e_on3, e_par3, e_newK, e_getK, e_keyI, e_keyS, e_inK, e_ninK, e_putK, e_lenK, e_lstS, e_seqX, e_gTpT, e_oN, e_oS, e_sl, e_slT, e_slL, e_finT, e_finN, e_index, e_idxT, e_idxL, e_mIx, e_ixST, e_ixSL, e_mtL, e_w, e_w1, e_w2, e_wE, e_wZ, e_itK, e_itT, e_itL, e_itT2, e_itL2, e_lc, e_for, e_wipe0, e_wipe, e_okI, e_okR, e_gSb, List.getElem?_cons_zero, List.getElem?_cons_succ, List.set_cons_zero, List.set_cons_succ]
    obtain ⟨n, hn, n1, n9⟩ : ∃ n : Nat, (1 : Int) + (n0 : Nat) = (n : Nat) ∧ 1 ≤ n ∧ n ≤ 9 := ⟨1 + n0, by omega, by omega, by omega⟩
    rw [hn]
    obtain ⟨mi, hmi, mi1, mi6, min⟩ : ∃ mi : Nat, (if (n : Int) < 6 then (n : Int) else 6) = (mi : Nat) ∧ 1 ≤ mi ∧ mi ≤ 6 ∧ mi ≤ n := by
      split
      · exact ⟨n, rfl, by omega, by omega, by omega⟩
      · exact ⟨6, rfl, by omega, by omega, by omega⟩
    try simp only [e_var, e_C, e_op, e_neg, e_isN, e_notN, e_and, e_or, e_not, e_test, e_tAnd, e_tOr, e_tNot, e_tYes, e_if, e_aNil, e_aCons, e_tup, e_lst, e_lstN, e_len0, e_len1, e_len2, e_len3, e_len4, e_len5, e_cb, e_on1, e_on2, e_onI, e_onB, e_onO, e_onO0, e_onOO, e_I0, e_I, e_add, e_addT, e_addS, e_addL, e_addLR, e_addRL, e_addRR, e_mul, e_mulL, e_mulT, e_rev, e_revT, e_ix, e_eqI, e_eqS, e_eqB, e_neI, e_neS, e_neB, e_ltI, e_chain, e_len, e_abs, e_2I, e_tuple1, e_tuple2, e_tuple3, e_listT, e_listN, e_allR, e_seqT, e_seqK, e_seqL, e_isi, e_isB, e_notB, e_truth, e_next, e_drop, e_ret, e_retN, e_ifS, e_set, e_asg, e_par, e_nm, e_gsN, e_gsC, e_gTpK, e_gTpL, e_sum, e_maxL, e_minL, e_maxDef, e_int, e_intB, e_aug, e_on3, e_par3, e_newK, e_getK, e_keyI, e_keyS, e_inK, e_ninK, e_putK, e_lenK, e_lstS, e_seqX, e_gTpT, e_oN, e_oS, e_sl, e_slT, e_slL, e_finT, e_finN, e_index, e_idxT, e_idxL, e_mIx, e_ixST, e_ixSL, e_mtL, e_w, e_w1, e_w2, e_wE, e_wZ, e_itK, e_itT, e_itL, e_itT2, e_itL2, e_lc, e_for, e_wipe0, e_wipe, e_okI, e_okR, e_gSb, List.getElem?_cons_zero, List.getElem?_cons_succ, List.set_cons_zero, List.set_cons_succ]
    rw [hmi]
    refine take_ev (n := 5000 + left.length * 5000 + 4998) (Pot.set lt (po1.less (by omega))) (by omega) (by omega) fun m0 o2 lm po2 => ?_
    rw [List.set_set]
    try simp only [e_var, e_C, e_op, e_neg, e_isN, e_notN, e_and, e_or, e_not, e_test, e_tAnd, e_tOr, e_tNot, e_tYes, e_if, e_aNil, e_aCons, e_tup, e_lst, e_lstN, e_len0, e_len1, e_len2, e_len3, e_len4, e_len5, e_cb, e_on1, e_on2, e_onI, e_onB, e_onO, e_onO0, e_onOO, e_I0, e_I, e_add, e_addT, e_addS, e_addL, e_addLR, e_addRL, e_addRR, e_mul, e_mulL, e_mulT, e_rev, e_revT, e_ix, e_eqI, e_eqS, e_eqB, e_neI, e_neS, e_neB, e_ltI, e_chain, e_len, e_abs, e_2I, e_tuple1, e_tuple2, e_tuple3, e_listT, e_listN, e_allR, e_seqT, e_seqK, e_seqL, e_isi, e_isB, e_notB, e_truth, e_next, e_drop, e_ret, e_retN, e_ifS, e_set, e_asg, e_par, e_nm, e_gsN, e_gsC, e_gTpK, e_gTpL, e_sum, e_maxL, e_minL, e_maxDef, e_int, e_intB, e_aug, e_on3, e_par3, e_newK, e_getK, e_keyI, e_keyS, e_inK, e_ninK, e_putK, e_lenK, e_lstS, e_seqX, e_gTpT, e_oN, e_oS, e_sl, e_slT, e_slL, e_finT, e_finN, e_index, e_idxT, e_idxL, e_mIx, e_ixST, e_ixSL, e_mtL, e_w, e_w1, e_w2, e_wE, e_wZ, e_itK, e_itT, e_itL, e_itT2, e_itL2, e_lc, e_for, e_wipe0, e_wipe, e_okI, e_okR, e_gSb, List.getElem?_cons_zero, List.getElem?_cons_succ, List.set_cons_zero, List.set_cons_succ]
    obtain ⟨m, hm', m1, mn⟩ : ∃ m : Nat, (1 : Int) + (m0 : Nat) = (m : Nat) ∧ 1 ≤ m ∧ m ≤ n := ⟨1 + m0, by omega, by omega, by omega⟩
    rw [hm']
    refine ⟨p, 5000 + left.length * 5000, m, n, rfl, Pot.set lt (po2.less (by omega)), m1, mn, by omega, fun o3 po3 => ?_⟩
    rw [List.set_set]
    try simp only [e_var, e_C, e_op, e_neg, e_isN, e_notN, e_and, e_or, e_not, e_test, e_tAnd, e_tOr, e_tNot, e_tYes, e_if, e_aNil, e_aCons, e_tup, e_lst, e_lstN, e_len0, e_len1, e_len2, e_len3, e_len4, e_len5, e_cb, e_on1, e_on2, e_onI, e_onB, e_onO, e_onO0, e_onOO, e_I0, e_I, e_add, e_addT, e_addS, e_addL, e_addLR, e_addRL, e_addRR, e_mul, e_mulL, e_mulT, e_rev, e_revT, e_ix, e_eqI, e_eqS, e_eqB, e_neI, e_neS, e_neB, e_ltI, e_chain, e_len, e_abs, e_2I, e_tuple1, e_tuple2, e_tuple3, e_listT, e_listN, e_allR, e_seqT, e_seqK, e_seqL, e_isi, e_isB, e_notB, e_truth, e_next, e_drop, e_ret, e_retN, e_ifS, e_set, e_asg, e_par, e_nm, e_gsN, e_gsC, e_gTpK, e_gTpL, e_sum, e_maxL, e_minL, e_maxDef, e_int, e_intB, e_aug, e_on3, e_par3, e_newK, e_getK, e_keyI, e_keyS, e_inK, e_ninK, e_putK, e_lenK, e_lstS, e_seqX, e_gTpT, e_oN, e_oS, e_sl, e_slT, e_slL, e_finT, e_finN, e_index, e_idxT, e_idxL, e_mIx, e_ixST, e_ixSL, e_mtL, e_w, e_w1, e_w2, e_wE, e_wZ, e_itK, e_itT, e_itL, e_itT2, e_itL2, e_lc, e_for, e_wipe0, e_wipe, e_okI, e_okR, e_gSb, List.getElem?_cons_zero, List.getElem?_cons_succ, List.set_cons_zero, List.set_cons_succ]
    refine iteF' rfl ?_
    exact hN _ _ (.inl ⟨o3, _, _, rfl, rfl, po3⟩)
  · rintro r st' ⟨o, x1, x2, rfl, rfl, po⟩
    simp only [List.length_nil] at po
    try dsimp only
    rw [e_seq]
    try simp only [e_var, e_C, e_op, e_neg, e_isN, e_notN, e_and, e_or, e_not, e_test, e_tAnd, e_tOr, e_tNot, e_tYes, e_if, e_aNil, e_aCons, e_tup, e_lst, e_lstN, e_len0, e_len1, e_len2, e_len3, e_len4, e_len5, e_cb, e_on1, e_on2, e_onI, e_onB, e_onO, e_onO0, e_onOO, e_I0, e_I, e_add, e_addT, e_addS, e_addL, e_addLR, e_addRL, e_addRR, e_mul, e_mulL, e_mulT, e_rev, e_revT, e_ix, e_eqI, e_eqS, e_eqB, e_neI, e_neS, e_neB, e_ltI, e_chain, e_len, e_abs, e_2I, e_tuple1, e_tuple2, e_tuple3, e_listT, e_listN, e_allR, e_seqT, e_seqK, e_seqL, e_isi, e_isB, e_notB, e_truth, e_next, e_drop, e_ret, e_retN, e_ifS, e_set, e_asg, e_par, e_nm, e_gsN, e_gsC, e_gTpK, e_gTpL, e_sum, e_maxL, e_minL, e_maxDef, e_int, e_intB, e_aug, e_on3, e_par3, e_newK, e_getK, e_keyI, e_keyS, e_inK, e_ninK, e_putK, e_lenK, e_lstS, e_seqX, e_gTpT, e_oN, e_oS, e_sl, e_slT, e_slL, e_finT, e_finN, e_index, e_idxT, e_idxL, e_mIx, e_ixST, e_ixSL, e_mtL, e_w, e_w1, e_w2, e_wE, e_wZ, e_itK, e_itT, e_itL, e_itT2, e_itL2, e_lc, e_for, e_wipe0, e_wipe, e_okI, e_okR, e_gSb, List.getElem?_cons_zero, List.getElem?_cons_succ, List.set_cons_zero, List.set_cons_succ]
    refine take_ev (n := 4999) (Pot.set lt (po.less (by omega))) (by decide) (by decide) fun n0 o1 ln po1 => ?_
    rw [List.set_set]
    try simp only [e_var, e_C, e_op, e_neg, e_isN, e_notN, e_and, e_or, e_not, e_test, e_tAnd, e_tOr, e_tNot, e_tYes, e_if, e_aNil, e_aCons, e_tup, e_lst, e_lstN, e_len0, e_len1, e_len2, e_len3, e_len4, e_len5, e_cb, e_on1, e_on2, e_onI, e_onB, e_onO, e_onO0, e_onOO, e_I0, e_I, e_add, e_addT, e_addS, e_addL, e_addLR, e_addRL, e_addRR, e_mul, e_mulL, e_mulT, e_rev, e_revT, e_ix, e_eqI, e_eqS, e_eqB, e_neI, e_neS, e_neB, e_ltI, e_chain, e_len, e_abs, e_2I, e_tuple1, e_tuple2, e_tuple3, e_listT, e_listN, e_allR, e_seqT, e_seqK, e_seqL, e_isi, e_isB, e_notB, e_truth, e_next, e_drop, e_ret, e_retN, e_ifS, e_set, e_asg, e_par, e_nm, e_gsN, e_gsC, e_gTpK, e_gTpL, e_sum, e_maxL, e_minL, e_maxDef, e_int, e_intB, e_aug, e_on3, e_par3, e_newK, e_getK, e_keyI, e_keyS, e_inK, e_ninK, e_putK, e_lenK, e_lstS, e_seqX, e_gTpT, e_oN, e_oS, e_sl, e_slT, e_slL, e_finT, e_finN, e_index, e_idxT, e_idxL, e_mIx, e_ixST, e_ixSL, e_mtL, e_w, e_w1, e_w2, e_wE, e_wZ, e_itK, e_itT, e_itL, e_itT2, e_itL2, e_lc, e_for, e_wipe0, e_wipe, e_okI, e_okR, e_gSb, List.getElem?_cons_zero, List.getElem?_cons_succ, List.set_cons_zero, List.set_cons_succ]
    obtain ⟨n, hn, n1, n9⟩ : ∃ n : Nat, (9 : Int) + (n0 : Nat) = (n : Nat) ∧ 9 ≤ n ∧ n ≤ 16 := ⟨9 + n0, by omega, by omega, by omega⟩
    rw [hn]
    obtain ⟨mi, hmi, mi1, mi8, min⟩ : ∃ mi : Nat, (if (n : Int) - 6 < 8 then (n : Int) - 6 else 8) = (mi : Nat) ∧ 1 ≤ mi ∧ mi ≤ 8 ∧ mi + 6 ≤ n := by
      split
      · exact ⟨n - 6, by omega, by omega, by omega, by omega⟩
      · exact ⟨8, rfl, by omega, by omega, by omega⟩
    try simp only [e_var, e_C, e_op, e_neg, e_isN, e_notN, e_and, e_or, e_not, e_test, e_tAnd, e_tOr, e_tNot, e_tYes, e_if, e_aNil, e_aCons, e_tup, e_lst, e_lstN, e_len0, e_len1, e_len2, e_len3, e_len4, e_len5, e_cb, e_on1, e_on2, e_onI, e_onB, e_onO, e_onO0, e_onOO, e_I0, e_I, e_add, e_addT, e_addS, e_addL, e_addLR, e_addRL, e_addRR, e_mul, e_mulL, e_mulT, e_rev, e_revT, e_ix, e_eqI, e_eqS, e_eqB, e_neI, e_neS, e_neB, e_ltI, e_chain, e_len, e_abs, e_2I, e_tuple1, e_tuple2, e_tuple3, e_listT, e_listN, e_allR, e_seqT, e_seqK, e_seqL, e_isi, e_isB, e_notB, e_truth, e_next, e_drop, e_ret, e_retN, e_ifS, e_set, e_asg, e_par, e_nm, e_gsN, e_gsC, e_gTpK, e_gTpL, e_sum, e_maxL, e_minL, e_maxDef, e_int, e_intB, e_aug, e_on3, e_par3, e_newK, e_getK, e_keyI, e_keyS, e_inK, e_ninK, e_putK, e_lenK, e_lstS, e_seqX, e_gTpT, e_oN, e_oS, e_sl, e_slT, e_slL, e_finT, e_finN, e_index, e_idxT, e_idxL, e_mIx, e_ixST, e_ixSL, e_mtL, e_w, e_w1, e_w2, e_wE, e_wZ, e_itK, e_itT, e_itL, e_itT2, e_itL2, e_lc, e_for, e_wipe0, e_wipe, e_okI, e_okR, e_gSb, List.getElem?_cons_zero, List.getElem?_cons_succ, List.set_cons_zero, List.set_cons_succ]
    rw [hmi]
    refine take_ev (n := 4998) (Pot.set lt (po1.less (by omega))) (by omega) (by omega) fun m0 o2 lm po2 => ?_
    rw [List.set_set]
    try simp only [e_var, e_C, e_op, e_neg, e_isN, e_notN, e_and, e_or, e_not, e_test, e_tAnd, e_tOr, e_tNot, e_tYes, e_if, e_aNil, e_aCons, e_tup, e_lst, e_lstN, e_len0, e_len1, e_len2, e_len3, e_len4, e_len5, e_cb, e_on1, e_on2, e_onI, e_onB, e_onO, e_onO0, e_onOO, e_I0, e_I, e_add, e_addT, e_addS, e_addL, e_addLR, e_addRL, e_addRR, e_mul, e_mulL, e_mulT, e_rev, e_revT, e_ix, e_eqI, e_eqS, e_eqB, e_neI, e_neS, e_neB, e_ltI, e_chain, e_len, e_abs, e_2I, e_tuple1, e_tuple2, e_tuple3, e_listT, e_listN, e_allR, e_seqT, e_seqK, e_seqL, e_isi, e_isB, e_notB, e_truth, e_next, e_drop, e_ret, e_retN, e_ifS, e_set, e_asg, e_par, e_nm, e_gsN, e_gsC, e_gTpK, e_gTpL, e_sum, e_maxL, e_minL, e_maxDef, e_int, e_intB, e_aug, e_on3, e_par3, e_newK, e_getK, e_keyI, e_keyS, e_inK, e_ninK, e_putK, e_lenK, e_lstS, e_seqX, e_gTpT, e_oN, e_oS, e_sl, e_slT, e_slL, e_finT, e_finN, e_index, e_idxT, e_idxL, e_mIx, e_ixST, e_ixSL, e_mtL, e_w, e_w1, e_w2, e_wE, e_wZ, e_itK, e_itT, e_itL, e_itT2, e_itL2, e_lc, e_for, e_wipe0, e_wipe, e_okI, e_okR, e_gSb, List.getElem?_cons_zero, List.getElem?_cons_succ, List.set_cons_zero, List.set_cons_succ]
    obtain ⟨m, hm', m1, mn⟩ : ∃ m : Nat, (7 : Int) + (m0 : Nat) = (m : Nat) ∧ 1 ≤ m ∧ m ≤ n := ⟨7 + m0, by omega, by omega, by omega⟩
    rw [hm']
    refine ⟨p, 100, m, n, rfl, Pot.set lt (po2.less (by omega)), m1, mn, by omega, fun o3 po3 => ?_⟩
    rw [List.set_set]
    exact rt_set rfl po3 (q o3 (po3.less (by omega)))
end DL
namespace DL.K70
open PySem PySem.Spec PyProof.Rows L2 LamX PySem.W SL
open DL
def topS (i : Nat) : Stmt := PySem.Challenge.pw_samelayout_k70_whole_farther_stays_is_be.main.body.getD i (.Pass ⟨0, 0, 0, 0⟩)
abbrev s_flows : Stmt := topS 6
abbrev n_flows : List Str := ["counts", "count"]
theorem sc_flows : FnScope n_flows ["counts"] (defScope s_flows) := ⟨rfl, rfl, rfl, by decide +kernel, rfl, by decide +kernel, by decide +kernel⟩
abbrev s_flows_behind : Stmt := topS 7
abbrev n_flows_behind : List Str := ["runs", "flow", "size", "count", "behind"]
theorem sc_flows_behind : FnScope n_flows_behind ["runs"] (defScope s_flows_behind) := ⟨rfl, rfl, rfl, by decide +kernel, rfl, by decide +kernel, by decide +kernel⟩
abbrev s_require_room : Stmt := topS 8
abbrev n_require_room : List Str := ["runs", "keys", "size", "count"]
theorem sc_require_room : FnScope n_require_room ["runs"] (defScope s_require_room) := ⟨rfl, rfl, rfl, by decide +kernel, rfl, by decide +kernel, by decide +kernel⟩
abbrev s_flow_behind : Stmt := topS 9
abbrev n_flow_behind : List Str := ["flow", "size", "count"]
theorem sc_flow_behind : FnScope n_flow_behind ["flow", "size", "count"] (defScope s_flow_behind) := ⟨rfl, rfl, rfl, by decide +kernel, rfl, by decide +kernel, by decide +kernel⟩
abbrev s_taken : Stmt := topS 10
abbrev n_taken : List Str := ["counts", "over", "slot"]
theorem sc_taken : FnScope n_taken ["counts"] (defScope s_taken) := ⟨rfl, rfl, rfl, by decide +kernel, rfl, by decide +kernel, by decide +kernel⟩
abbrev s_greatest_distance : Stmt := topS 11
abbrev n_greatest_distance : List Str := ["counts"]
theorem sc_greatest_distance : FnScope n_greatest_distance ["counts"] (defScope s_greatest_distance) := ⟨rfl, rfl, rfl, by decide +kernel, rfl, by decide +kernel, by decide +kernel⟩
abbrev s_square_sum : Stmt := topS 12
abbrev n_square_sum : List Str := ["counts", "wait"]
theorem sc_square_sum : FnScope n_square_sum ["counts"] (defScope s_square_sum) := ⟨rfl, rfl, rfl, by decide +kernel, rfl, by decide +kernel, by decide +kernel⟩
abbrev s_waits : Stmt := topS 13
abbrev n_waits : List Str := ["counts", "over", "slot", "at"]
theorem sc_waits : FnScope n_waits ["counts"] (defScope s_waits) := ⟨rfl, rfl, rfl, by decide +kernel, rfl, by decide +kernel, by decide +kernel⟩
abbrev s_insert : Stmt := topS 16
abbrev n_insert : List Str := ["probes", "rule", "layout", "key", "slots", "path", "asking", "slot"]
theorem sc_insert : FnScope n_insert ["probes", "rule", "layout", "key"] (defScope s_insert) := ⟨rfl, rfl, rfl, by decide +kernel, rfl, by decide +kernel, by decide +kernel⟩
abbrev s_layout_of : Stmt := topS 17
abbrev n_layout_of : List Str := ["probes", "rule", "history", "layout", "key"]
theorem sc_layout_of : FnScope n_layout_of ["probes", "rule", "history"] (defScope s_layout_of) := ⟨rfl, rfl, rfl, by decide +kernel, rfl, by decide +kernel, by decide +kernel⟩
abbrev s_rule_of_orders : Stmt := topS 19
abbrev n_rule_of_orders : List Str := ["orders", "order"]
theorem sc_rule_of_orders : FnScope n_rule_of_orders ["orders"] (defScope s_rule_of_orders) := ⟨rfl, rfl, rfl, by decide +kernel, rfl, by decide +kernel, by decide +kernel⟩
abbrev s_table_of_order : Stmt := topS 20
abbrev n_table_of_order : List Str := ["order", "key"]
theorem sc_table_of_order : FnScope n_table_of_order ["order"] (defScope s_table_of_order) := ⟨rfl, rfl, rfl, by decide +kernel, rfl, by decide +kernel, by decide +kernel⟩
abbrev s_ring_at : Stmt := topS 21
abbrev n_ring_at : List Str := ["rule", "slot", "table", "a", "b", "c"]
theorem sc_ring_at : FnScope n_ring_at ["rule", "slot"] (defScope s_ring_at) := ⟨rfl, rfl, rfl, by decide +kernel, rfl, by decide +kernel, by decide +kernel⟩
abbrev s_is_ordered : Stmt := topS 22
abbrev n_is_ordered : List Str := ["rule", "slot"]
theorem sc_is_ordered : FnScope n_is_ordered ["rule"] (defScope s_is_ordered) := ⟨rfl, rfl, rfl, by decide +kernel, rfl, by decide +kernel, by decide +kernel⟩
abbrev s_farther_rule : Stmt := topS 23
abbrev n_farther_rule : List Str := ["probes", "slot"]
theorem sc_farther_rule : FnScope n_farther_rule ["probes"] (defScope s_farther_rule) := ⟨rfl, rfl, rfl, by decide +kernel, rfl, by decide +kernel, by decide +kernel⟩
abbrev s_farther_order : Stmt := topS 24
abbrev n_farther_order : List Str := ["probes", "slot"]
theorem sc_farther_order : FnScope n_farther_order ["probes", "slot"] (defScope s_farther_order) := ⟨rfl, rfl, rfl, by decide +kernel, rfl, by decide +kernel, by decide +kernel⟩
abbrev s__law_pot : Stmt := topS 26
abbrev n__law_pot : List Str := ["_law_script", "_law_k", "_law_cell", "_law_great"]
theorem sc__law_pot : FnScope n__law_pot ["_law_script", "_law_k"] (defScope s__law_pot) := ⟨rfl, rfl, rfl, by decide +kernel, rfl, by decide +kernel, by decide +kernel⟩
abbrev s__law_take : Stmt := topS 27
abbrev n__law_take : List Str := ["_law_pot_here", "_law_size", "_law_digit", "_law_prime", "_law_mixed_here"]
theorem sc__law_take : FnScope n__law_take ["_law_pot_here", "_law_size"] (defScope s__law_take) := ⟨rfl, rfl, rfl, by decide +kernel, rfl, by decide +kernel, by decide +kernel⟩
abbrev s__law_pick : Stmt := topS 28
abbrev n__law_pick : List Str := ["_law_pot_here", "_law_some"]
theorem sc__law_pick : FnScope n__law_pick ["_law_pot_here", "_law_some"] (defScope s__law_pick) := ⟨rfl, rfl, rfl, by decide +kernel, rfl, by decide +kernel, by decide +kernel⟩
abbrev s__law_mixed : Stmt := topS 29
abbrev n__law_mixed : List Str := ["_law_pot_here", "_law_some", "_law_left", "_law_found"]
theorem sc__law_mixed : FnScope n__law_mixed ["_law_pot_here", "_law_some"] (defScope s__law_mixed) := ⟨rfl, rfl, rfl, by decide +kernel, rfl, by decide +kernel, by decide +kernel⟩
abbrev s__law_line : Stmt := topS 30
abbrev n__law_line : List Str := ["_law_size", "_law_begin", "_law_at"]
theorem sc__law_line : FnScope n__law_line ["_law_size", "_law_begin"] (defScope s__law_line) := ⟨rfl, rfl, rfl, by decide +kernel, rfl, by decide +kernel, by decide +kernel⟩
abbrev s__law_line_setting : Stmt := topS 31
abbrev n__law_line_setting : List Str := ["_law_pot_here", "_law_many", "_law_spots", "_law_homes", "_law_one", "_law_home"]
theorem sc__law_line_setting : FnScope n__law_line_setting ["_law_pot_here", "_law_many", "_law_spots"] (defScope s__law_line_setting) := ⟨rfl, rfl, rfl, by decide +kernel, rfl, by decide +kernel, by decide +kernel⟩
abbrev s__law_worths : Stmt := topS 32
abbrev n__law_worths : List Str := ["_law_homes", "_law_pairs", "_law_size", "_law_far", "_law_one", "_law_spot"]
theorem sc__law_worths : FnScope n__law_worths ["_law_homes", "_law_pairs", "_law_size"] (defScope s__law_worths) := ⟨rfl, rfl, rfl, by decide +kernel, rfl, by decide +kernel, by decide +kernel⟩
abbrev s__law_all_ways : Stmt := topS 33
abbrev n__law_all_ways : List Str := ["_law_many", "_law_spots", "_law_found", "_law_one", "_law_longer", "_law_way", "_law_spot"]
theorem sc__law_all_ways : FnScope n__law_all_ways ["_law_many", "_law_spots"] (defScope s__law_all_ways) := ⟨rfl, rfl, rfl, by decide +kernel, rfl, by decide +kernel, by decide +kernel⟩
abbrev s__law_setting_right : Stmt := topS 34
abbrev n__law_setting_right : List Str := ["_law_pot_here", "_law_many", "_law_spots", "_law_homes", "_law_some", "_law_made", "_law_row", "_law_counts", "_law_one", "_law_pairs", "_law_due", "_law_way", "_law_top", "_law_squares", "_law_two", "_law_moved", "_law_spot"]
theorem sc__law_setting_right : FnScope n__law_setting_right ["_law_pot_here", "_law_many", "_law_spots"] (defScope s__law_setting_right) := ⟨rfl, rfl, rfl, by decide +kernel, rfl, by decide +kernel, by decide +kernel⟩
abbrev s__law_right : Stmt := topS 35
abbrev n__law_right : List Str := ["_law_pot_here", "_law_turn", "_law_spots"]
theorem sc__law_right : FnScope n__law_right ["_law_pot_here"] (defScope s__law_right) := ⟨rfl, rfl, rfl, by decide +kernel, rfl, by decide +kernel, by decide +kernel⟩
abbrev s_law : Stmt := topS 36
abbrev n_law : List Str := ["_law_script", "_law_k"]
theorem sc_law : FnScope n_law ["_law_script"] (defScope s_law) := ⟨rfl, rfl, rfl, by decide +kernel, rfl, by decide +kernel, by decide +kernel⟩
structure Defs (K : Frag) (mg : Str → Option Value) (base : Heap) (T : List (Addr × Str)) : Prop where
  d_flows : ∃ f fd, Fun K "flows" "flows" s_flows f fd ∧ Binds K fd ["counts"] [] ∧ mg "flows" = some (.ref f)
  d_flows_behind : ∃ f fd, Fun K "flows_behind" "flows_behind" s_flows_behind f fd ∧ Binds K fd ["runs"] [] ∧ mg "flows_behind" = some (.ref f)
  d_require_room : ∃ f fd, Fun K "require_room" "require_room" s_require_room f fd ∧ Binds K fd ["runs"] [] ∧ mg "require_room" = some (.ref f)
  d_flow_behind : ∃ f fd, Fun K "flow_behind" "flow_behind" s_flow_behind f fd ∧ Binds K fd ["flow", "size", "count"] [] ∧ mg "flow_behind" = some (.ref f)
  d_taken : ∃ f fd, Fun K "taken" "taken" s_taken f fd ∧ Binds K fd ["counts"] [] ∧ mg "taken" = some (.ref f)
  d_greatest_distance : ∃ f fd, Fun K "greatest_distance" "greatest_distance" s_greatest_distance f fd ∧ Binds K fd ["counts"] [] ∧ mg "greatest_distance" = some (.ref f)
  d_square_sum : ∃ f fd, Fun K "square_sum" "square_sum" s_square_sum f fd ∧ Binds K fd ["counts"] [] ∧ mg "square_sum" = some (.ref f)
  d_waits : ∃ f fd, Fun K "waits" "waits" s_waits f fd ∧ Binds K fd ["counts"] [] ∧ mg "waits" = some (.ref f)
  d_insert : ∃ f fd, Fun K "insert" "insert" s_insert f fd ∧ Binds K fd ["probes", "rule", "layout", "key"] [] ∧ mg "insert" = some (.ref f)
  d_layout_of : ∃ f fd, Fun K "layout_of" "layout_of" s_layout_of f fd ∧ Binds K fd ["probes", "rule", "history"] [] ∧ mg "layout_of" = some (.ref f)
  d_rule_of_orders : ∃ f fd, Fun K "rule_of_orders" "rule_of_orders" s_rule_of_orders f fd ∧ Binds K fd ["orders"] [] ∧ mg "rule_of_orders" = some (.ref f)
  d_table_of_order : ∃ f fd, Fun K "table_of_order" "table_of_order" s_table_of_order f fd ∧ Binds K fd ["order"] [] ∧ mg "table_of_order" = some (.ref f)
  d_ring_at : ∃ f fd, Fun K "ring_at" "ring_at" s_ring_at f fd ∧ Binds K fd ["rule", "slot"] [] ∧ mg "ring_at" = some (.ref f)
  d_is_ordered : ∃ f fd, Fun K "is_ordered" "is_ordered" s_is_ordered f fd ∧ Binds K fd ["rule"] [] ∧ mg "is_ordered" = some (.ref f)
  d_farther_rule : ∃ f fd, Fun K "farther_rule" "farther_rule" s_farther_rule f fd ∧ Binds K fd ["probes"] [] ∧ mg "farther_rule" = some (.ref f)
  d_farther_order : ∃ f fd, Fun K "farther_order" "farther_order" s_farther_order f fd ∧ Binds K fd ["probes", "slot"] [] ∧ mg "farther_order" = some (.ref f) ∧ ∃ c Pt, fd.code = .ref c ∧ TabB base mg c Pt ∧ (Pt, qLam "farther_order") ∈ T ∧ ∀ p ∈ T, p.1 = Pt → p.2 = qLam "farther_order"
  d__law_pot : ∃ f fd, Fun K "_law_pot" "_law_pot" s__law_pot f fd ∧ Binds K fd ["_law_script", "_law_k"] [] ∧ mg "_law_pot" = some (.ref f)
  d__law_take : ∃ f fd, Fun K "_law_take" "_law_take" s__law_take f fd ∧ Binds K fd ["_law_pot_here", "_law_size"] [] ∧ mg "_law_take" = some (.ref f)
  d__law_pick : ∃ f fd, Fun K "_law_pick" "_law_pick" s__law_pick f fd ∧ Binds K fd ["_law_pot_here", "_law_some"] [] ∧ mg "_law_pick" = some (.ref f)
  d__law_mixed : ∃ f fd, Fun K "_law_mixed" "_law_mixed" s__law_mixed f fd ∧ Binds K fd ["_law_pot_here", "_law_some"] [] ∧ mg "_law_mixed" = some (.ref f)
  d__law_line : ∃ f fd, Fun K "_law_line" "_law_line" s__law_line f fd ∧ Binds K fd ["_law_size", "_law_begin"] [] ∧ mg "_law_line" = some (.ref f)
  d__law_line_setting : ∃ f fd, Fun K "_law_line_setting" "_law_line_setting" s__law_line_setting f fd ∧ Binds K fd ["_law_pot_here", "_law_many", "_law_spots"] [] ∧ mg "_law_line_setting" = some (.ref f)
  d__law_worths : ∃ f fd, Fun K "_law_worths" "_law_worths" s__law_worths f fd ∧ Binds K fd ["_law_homes", "_law_pairs", "_law_size"] [] ∧ mg "_law_worths" = some (.ref f)
  d__law_all_ways : ∃ f fd, Fun K "_law_all_ways" "_law_all_ways" s__law_all_ways f fd ∧ Binds K fd ["_law_many", "_law_spots"] [] ∧ mg "_law_all_ways" = some (.ref f)
  d__law_setting_right : ∃ f fd, Fun K "_law_setting_right" "_law_setting_right" s__law_setting_right f fd ∧ Binds K fd ["_law_pot_here", "_law_many", "_law_spots"] [] ∧ mg "_law_setting_right" = some (.ref f)
  d__law_right : ∃ f fd, Fun K "_law_right" "_law_right" s__law_right f fd ∧ Binds K fd ["_law_pot_here"] [] ∧ mg "_law_right" = some (.ref f)
  d_law : ∃ f fd, Fun K "law" "law" s_law f fd ∧ Binds K fd ["_law_script"] [] ∧ mg "law" = some (.ref f)
  c_EMPTY : ∃ u, mg "EMPTY" = some u ∧ RelV (.int (-1)) u
  z_abs : mg "abs" = none
  z_all : mg "all" = none
  z_enumerate : mg "enumerate" = none
  z_len : mg "len" = none
  z_list : mg "list" = none
  z_max : mg "max" = none
  z_min : mg "min" = none
  z_range : mg "range" = none
  z_sorted : mg "sorted" = none
  z_sum : mg "sum" = none
  z_tuple : mg "tuple" = none
section
variable {P : Program} {w : World} {K : Frag} {mg : Str → Option Value} {base : Heap} {T : List (Addr × Str)}
def Cal (P : Program) (w : World) (K : Frag) (mg : Str → Option Value) (base : Heap) (T : List (Addr × Str)) (x : Str) (st : Stmt) (k : Nat) (ps : List Str) (g : DRs) : Prop := ∃ f fd, Fun K x x st f fd ∧ Binds K fd ps [] ∧ mg x = some (.ref f) ∧ FnD P w K mg base T k f fd ps g
theorem ok_flows (D : Defs K mg base T) {g_flows_behind : DRs} (C_flows_behind : Cal P w K mg base T "flows_behind" s_flows_behind 2 ["runs"] g_flows_behind) {g_ : DRs} (ar : ∀ ds st Q, g_ ds st Q → ds.length = 1) (sem : ∀ ds st Q, g_ ds st Q → F_flows g_flows_behind { nx := fun _ st' => Rt st Q .non st', rt := Rt st Q } (startD 2 ds) st) : Cal P w K mg base T "flows" s_flows 3 ["counts"] g_ := by
  obtain ⟨f, fd, F, b, m⟩ := D.d_flows
  obtain ⟨f_flows_behind, fd_flows_behind, F_flows_behind_, b_flows_behind, g_flows_behind_at, G_flows_behind⟩ := C_flows_behind
  exact ⟨f, fd, F, b, m, fnD_mk (k := 2) F sc_flows ar (fun cdv A outer s H E gd hr => (ds_one (ds_ret (de_call G_flows_behind gd (hr.mono (by omega)) (by rfl) g_flows_behind_at F_flows_behind_.kp b_flows_behind (da_cons (de_lcG finT_ok rfl sc_flows.nd (di_seq (de_var (pv 0))) (blkOk_by (own := [("count", 1)]) (N := n_flows) (sc := defScope s_flows) (by decide +kernel)) (fun _ _ _ _ _ => (dg_name (i := 1) sc_flows.nd rfl (.inl rfl) (by decide))) (fun _ _ _ _ _ => dts_nil) (fun _ _ _ _ _ => (de_tup (da_cons (de_int) (da_cons (de_var (pv 1)) da_nil))))) da_nil))))) sem⟩
theorem ok_flows_behind (D : Defs K mg base T) {g_require_room : DRs} (C_require_room : Cal P w K mg base T "require_room" s_require_room 1 ["runs"] g_require_room) {g_flow_behind : DRs} (C_flow_behind : Cal P w K mg base T "flow_behind" s_flow_behind 1 ["flow", "size", "count"] g_flow_behind) {g_ : DRs} (ar : ∀ ds st Q, g_ ds st Q → ds.length = 1) (sem : ∀ ds st Q, g_ ds st Q → F_flows_behind g_require_room g_flow_behind { nx := fun _ st' => Rt st Q .non st', rt := Rt st Q } (startD 5 ds) st) : Cal P w K mg base T "flows_behind" s_flows_behind 2 ["runs"] g_ := by
  obtain ⟨f, fd, F, b, m⟩ := D.d_flows_behind
  obtain ⟨f_require_room, fd_require_room, F_require_room_, b_require_room, g_require_room_at, G_require_room⟩ := C_require_room
  obtain ⟨f_flow_behind, fd_flow_behind, F_flow_behind_, b_flow_behind, g_flow_behind_at, G_flow_behind⟩ := C_flow_behind
  exact ⟨f, fd, F, b, m, fnD_mk (k := 1) F sc_flows_behind ar (fun cdv A outer s H E gd hr => (ds_cons (ds_expr (de_call G_require_room gd (hr.mono (by omega)) (by rfl) g_require_room_at F_require_room_.kp b_require_room (da_cons (de_var (pv 0)) da_nil))) (ds_cons (ds_set (i := 1) sc_flows_behind.nd rfl (.inl rfl) (de_int)) (ds_cons (ds_for (vs := [2, 3]) PassesOwn.never rfl (di_seq (de_var (pv 0))) (dg_tup rfl (dgs_cons (dg_name (i := 2) sc_flows_behind.nd rfl (.inl rfl) (by decide)) (dgs_cons (dg_name (i := 3) sc_flows_behind.nd rfl (.inl rfl) (by decide)) dgs_nil))) (ds_one (ds_set (i := 1) sc_flows_behind.nd rfl (.inl rfl) (de_call G_flow_behind gd (hr.mono (by omega)) (by rfl) g_flow_behind_at F_flow_behind_.kp b_flow_behind (da_cons (de_var (pv 1)) (da_cons (de_var (pv 2)) (da_cons (de_var (pv 3)) da_nil))))))) (ds_cons (ds_set (i := 4) sc_flows_behind.nd rfl (.inl rfl) (de_lstN da_nil)) (ds_cons (ds_for (vs := [2, 3]) PassesOwn.never rfl (di_seq (de_var (pv 0))) (dg_tup rfl (dgs_cons (dg_name (i := 2) sc_flows_behind.nd rfl (.inl rfl) (by decide)) (dgs_cons (dg_name (i := 3) sc_flows_behind.nd rfl (.inl rfl) (by decide)) dgs_nil))) (ds_cons (ds_set (i := 1) sc_flows_behind.nd rfl (.inl rfl) (de_call G_flow_behind gd (hr.mono (by omega)) (by rfl) g_flow_behind_at F_flow_behind_.kp b_flow_behind (da_cons (de_var (pv 1)) (da_cons (de_var (pv 2)) (da_cons (de_var (pv 3)) da_nil))))) (ds_one (ds_expr (de_bmL PySem.F.slot_list_append PySem.F.type_list_append mt_append mtD_append (de_var (pv 4)) (da_cons (de_var (pv 1)) da_nil)))))) (ds_one (ds_ret (de_callTy call_tup2 callD_tup (by rfl) D.z_tuple (by decide +kernel) (da_cons (de_var (pv 4)) da_nil)))))))))) sem⟩
theorem ok_require_room (D : Defs K mg base T) {g_ : DRs} (ar : ∀ ds st Q, g_ ds st Q → ds.length = 1) (sem : ∀ ds st Q, g_ ds st Q → F_require_room { nx := fun _ st' => Rt st Q .non st', rt := Rt st Q } (startD 4 ds) st) : Cal P w K mg base T "require_room" s_require_room 1 ["runs"] g_ := by
  obtain ⟨f, fd, F, b, m⟩ := D.d_require_room
  exact ⟨f, fd, F, b, m, fnD_mk (k := 0) F sc_require_room ar (fun cdv A outer s H E gd hr => (ds_cons (ds_set (i := 1) sc_require_room.nd rfl (.inl rfl) (de_callB (cr_sum2 rfl) callD_sum (by rfl) D.z_sum (by decide +kernel) (da_cons (de_lcG finT_ok rfl sc_require_room.nd (di_seq (de_var (pv 0))) (blkOk_by (own := [("size", 2), ("count", 3)]) (N := n_require_room) (sc := defScope s_require_room) (by decide +kernel)) (fun _ _ _ _ _ => (dg_tup rfl (dgs_cons (dg_name (i := 2) sc_require_room.nd rfl (.inl rfl) (by decide)) (dgs_cons (dg_name (i := 3) sc_require_room.nd rfl (.inl rfl) (by decide)) dgs_nil)))) (fun _ _ _ _ _ => dts_nil) (fun _ _ _ _ _ => (de_mul (de_var (pv 2)) (de_var (pv 3))))) da_nil))) (ds_one (ds_if (dt_cmpR op_gt (opD_I0 fun _ _ _ _ => .bl _) (de_var (pv 1)) (de_callB (cr_sum2 rfl) callD_sum (by rfl) D.z_sum (by decide +kernel) (da_cons (de_lcG finT_ok rfl sc_require_room.nd (di_seq (de_var (pv 0))) (blkOk_by (own := [("size", 2), ("count", 3)]) (N := n_require_room) (sc := defScope s_require_room) (by decide +kernel)) (fun _ _ _ _ _ => (dg_tup rfl (dgs_cons (dg_name (i := 2) sc_require_room.nd rfl (.inl rfl) (by decide)) (dgs_cons (dg_name (i := 3) sc_require_room.nd rfl (.inl rfl) (by decide)) dgs_nil)))) (fun _ _ _ _ _ => dts_nil) (fun _ _ _ _ _ => (de_var (pv 2)))) da_nil)) (nomark _)) (ds_one ds_never) ds_nil)))) sem⟩
theorem ok_flow_behind (D : Defs K mg base T) {g_ : DRs} (ar : ∀ ds st Q, g_ ds st Q → ds.length = 3) (sem : ∀ ds st Q, g_ ds st Q → F_flow_behind { nx := fun _ st' => Rt st Q .non st', rt := Rt st Q } (startD 3 ds) st) : Cal P w K mg base T "flow_behind" s_flow_behind 1 ["flow", "size", "count"] g_ := by
  obtain ⟨f, fd, F, b, m⟩ := D.d_flow_behind
  exact ⟨f, fd, F, b, m, fnD_mk (k := 0) F sc_flow_behind ar (fun cdv A outer s H E gd hr => (ds_one (ds_ret (de_callB (call_max2 rfl) callD_2I (by rfl) D.z_max (by decide +kernel) (da_cons (de_int) (da_cons (de_add (de_var (pv 0)) (de_mul (de_var (pv 1)) (de_sub (de_var (pv 2)) (de_int)))) da_nil)))))) sem⟩
theorem ok_taken (D : Defs K mg base T) {g_flows : DRs} (C_flows : Cal P w K mg base T "flows" s_flows 3 ["counts"] g_flows) {g_ : DRs} (ar : ∀ ds st Q, g_ ds st Q → ds.length = 1) (sem : ∀ ds st Q, g_ ds st Q → F_taken g_flows { nx := fun _ st' => Rt st Q .non st', rt := Rt st Q } (startD 3 ds) st) : Cal P w K mg base T "taken" s_taken 4 ["counts"] g_ := by
  obtain ⟨f, fd, F, b, m⟩ := D.d_taken
  obtain ⟨f_flows, fd_flows, F_flows_, b_flows, g_flows_at, G_flows⟩ := C_flows
  exact ⟨f, fd, F, b, m, fnD_mk (k := 3) F sc_taken ar (fun cdv A outer s H E gd hr => (ds_cons (ds_set (i := 1) sc_taken.nd rfl (.inr rfl) (de_call G_flows gd (hr.mono (by omega)) (by rfl) g_flows_at F_flows_.kp b_flows (da_cons (de_var (pv 0)) da_nil))) (ds_one (ds_ret (de_callTy call_tup2 callD_tup (by rfl) D.z_tuple (by decide +kernel) (da_cons (de_lcG finT_ok rfl sc_taken.nd (di_range1 (by rfl) D.z_range (da_cons (de_callB call_len_seq callD_len (by rfl) D.z_len PySem.boot_len (da_cons (de_var (pv 0)) da_nil)) da_nil)) (blkOk_by (own := [("slot", 2)]) (N := n_taken) (sc := defScope s_taken) (by decide +kernel)) (fun _ _ _ _ _ => (dg_name (i := 2) sc_taken.nd rfl (.inl rfl) (by decide))) (fun _ _ _ _ _ => (dts_one (dt_cmpR op_gt (opD_I0 fun _ _ _ _ => .bl _) (de_add (de_ix (de_var (pv 1)) (de_sub (de_var (pv 2)) (de_int)) (fun _ _ => rfl)) (de_ix (de_var (pv 0)) (de_var (pv 2)) (fun _ _ => rfl))) (de_int) (nomark _)))) (fun _ _ _ _ _ => (de_var (pv 2)))) da_nil)))))) sem⟩
theorem ok_greatest_distance (D : Defs K mg base T) {g_waits : DRs} (C_waits : Cal P w K mg base T "waits" s_waits 4 ["counts"] g_waits) {g_ : DRs} (ar : ∀ ds st Q, g_ ds st Q → ds.length = 1) (sem : ∀ ds st Q, g_ ds st Q → F_greatest_distance g_waits { nx := fun _ st' => Rt st Q .non st', rt := Rt st Q } (startD 1 ds) st) : Cal P w K mg base T "greatest_distance" s_greatest_distance 5 ["counts"] g_ := by
  obtain ⟨f, fd, F, b, m⟩ := D.d_greatest_distance
  obtain ⟨f_waits, fd_waits, F_waits_, b_waits, g_waits_at, G_waits⟩ := C_waits
  exact ⟨f, fd, F, b, m, fnD_mk (k := 4) F sc_greatest_distance ar (fun cdv A outer s H E gd hr => (ds_one (ds_ret (de_maxDef (Nat.lt_of_le_of_lt (Nat.add_le_add_left (by decide) _) hr.units) rfl (by rfl) D.z_max (de_call G_waits gd (hr.mono (by omega)) (by rfl) g_waits_at F_waits_.kp b_waits (da_cons (de_var (pv 0)) da_nil)) (de_int))))) sem⟩
theorem ok_square_sum (D : Defs K mg base T) {g_waits : DRs} (C_waits : Cal P w K mg base T "waits" s_waits 4 ["counts"] g_waits) {g_ : DRs} (ar : ∀ ds st Q, g_ ds st Q → ds.length = 1) (sem : ∀ ds st Q, g_ ds st Q → F_square_sum g_waits { nx := fun _ st' => Rt st Q .non st', rt := Rt st Q } (startD 2 ds) st) : Cal P w K mg base T "square_sum" s_square_sum 5 ["counts"] g_ := by
  obtain ⟨f, fd, F, b, m⟩ := D.d_square_sum
  obtain ⟨f_waits, fd_waits, F_waits_, b_waits, g_waits_at, G_waits⟩ := C_waits
  exact ⟨f, fd, F, b, m, fnD_mk (k := 4) F sc_square_sum ar (fun cdv A outer s H E gd hr => (ds_one (ds_ret (de_callB (cr_sum2 rfl) callD_sum (by rfl) D.z_sum (by decide +kernel) (da_cons (de_lcG finT_ok rfl sc_square_sum.nd (di_seq (de_call G_waits gd (hr.mono (by omega)) (by rfl) g_waits_at F_waits_.kp b_waits (da_cons (de_var (pv 0)) da_nil))) (blkOk_by (own := [("wait", 1)]) (N := n_square_sum) (sc := defScope s_square_sum) (by decide +kernel)) (fun _ _ _ _ _ => (dg_name (i := 1) sc_square_sum.nd rfl (.inl rfl) (by decide))) (fun _ _ _ _ _ => dts_nil) (fun _ _ _ _ _ => (de_mul (de_var (pv 1)) (de_var (pv 1))))) da_nil))))) sem⟩
theorem ok_waits (D : Defs K mg base T) {g_flows : DRs} (C_flows : Cal P w K mg base T "flows" s_flows 3 ["counts"] g_flows) {g_ : DRs} (ar : ∀ ds st Q, g_ ds st Q → ds.length = 1) (sem : ∀ ds st Q, g_ ds st Q → F_waits g_flows { nx := fun _ st' => Rt st Q .non st', rt := Rt st Q } (startD 4 ds) st) : Cal P w K mg base T "waits" s_waits 4 ["counts"] g_ := by
  obtain ⟨f, fd, F, b, m⟩ := D.d_waits
  obtain ⟨f_flows, fd_flows, F_flows_, b_flows, g_flows_at, G_flows⟩ := C_flows
  exact ⟨f, fd, F, b, m, fnD_mk (k := 3) F sc_waits ar (fun cdv A outer s H E gd hr => (ds_cons (ds_set (i := 1) sc_waits.nd rfl (.inr rfl) (de_call G_flows gd (hr.mono (by omega)) (by rfl) g_flows_at F_flows_.kp b_flows (da_cons (de_var (pv 0)) da_nil))) (ds_one (ds_ret (de_lc2G (vs1 := [3]) finT_ok rfl sc_waits.nd (di_range1 (by rfl) D.z_range (da_cons (de_callB call_len_seq callD_len (by rfl) D.z_len PySem.boot_len (da_cons (de_var (pv 0)) da_nil)) da_nil)) (blkOk_by (own := [("slot", 2), ("at", 3)]) (N := n_waits) (sc := defScope s_waits) (by decide +kernel)) (by decide) (fun _ _ _ _ _ => (dg_name (i := 2) sc_waits.nd rfl (.inl rfl) (by decide))) (fun _ _ _ _ _ => dts_nil) (fun _ _ _ _ _ => (di_range1 (by rfl) D.z_range (da_cons (de_ix (de_var (pv 0)) (de_var (pv 2)) (fun _ _ => rfl)) da_nil))) (fun _ _ _ _ _ => (dg_name (i := 3) sc_waits.nd rfl (.inl rfl) (by decide))) (fun _ _ _ _ _ => dts_nil) (fun _ _ _ _ _ => (de_add (de_ix (de_var (pv 1)) (de_sub (de_var (pv 2)) (de_int)) (fun _ _ => rfl)) (de_var (pv 3))))))))) sem⟩
theorem ok_insert (D : Defs K mg base T) {g_ : DRs} (ar : ∀ ds st Q, g_ ds st Q → ds.length = 4) (sem : ∀ ds st Q, g_ ds st Q → F_insert { nx := fun _ st' => Rt st Q .non st', rt := Rt st Q } (startD 8 ds) st) : Cal P w K mg base T "insert" s_insert 1 ["probes", "rule", "layout", "key"] g_ := by
  obtain ⟨f, fd, F, b, m⟩ := D.d_insert
  obtain ⟨u_EMPTY, h_c_EMPTY, r_EMPTY⟩ := D.c_EMPTY
  exact ⟨f, fd, F, b, m, fnD_mk (k := 0) F sc_insert ar (fun cdv A outer s H E gd hr => (ds_cons (ds_if (dt_cmpR op_in_seq (opD_in false) (de_var (pv 3)) (de_var (pv 2)) (by rfl)) (ds_one ds_never) ds_nil) (ds_cons (ds_if (dt_cmpR op_notIn_seq (opD_in true) (de_globI (by rfl) h_c_EMPTY r_EMPTY) (de_var (pv 2)) (by rfl)) (ds_one ds_never) ds_nil) (ds_cons (ds_set (i := 4) sc_insert.nd rfl (.inl rfl) (de_callTy call_list_of callD_listN (by rfl) D.z_list (by decide +kernel) (da_cons (de_var (pv 2)) da_nil))) (ds_cons (ds_set (i := 5) sc_insert.nd rfl (.inl rfl) (de_lstN da_nil)) (ds_cons (ds_set (i := 6) sc_insert.nd rfl (.inl rfl) (de_var (pv 3))) (ds_cons (ds_set (i := 7) sc_insert.nd rfl (.inl rfl) (de_ix (de_ix (de_var (pv 0)) (de_var (pv 3)) (fun _ _ => rfl)) (de_int) (fun _ _ => rfl))) (ds_cons (ds_while PassesOwn.never (dt_cmpR (op_ne2 hr.units) opD_ne (de_ix (de_var (pv 4)) (de_var (pv 7)) (fun _ _ => rfl)) (de_globI (by rfl) h_c_EMPTY r_EMPTY) (nomark _)) (ds_cons (ds_if (dt_cmpR op_notIn_seq (opD_in true) (de_var (pv 6)) (de_ix (de_ix (de_var (pv 1)) (de_var (pv 7)) (fun _ _ => rfl)) (de_ix (de_var (pv 4)) (de_var (pv 7)) (fun _ _ => rfl)) (fun _ _ => rfl)) (by rfl)) (ds_cons (ds_expr (de_bmL PySem.F.slot_list_append PySem.F.type_list_append mt_append mtD_append (de_var (pv 5)) (da_cons (de_tup (da_cons (de_var (pv 6)) (da_cons (de_var (pv 7)) da_nil))) da_nil))) (ds_one (ds_asg (vs := [6]) (de_tup (da_cons (de_ix (de_var (pv 4)) (de_var (pv 7)) (fun _ _ => rfl)) (da_cons (de_var (pv 6)) da_nil))) (dg_tup rfl (dgs_cons (dg_name (i := 6) sc_insert.nd rfl (.inl rfl) (by decide)) (dgs_cons (dg_sub (de_var (pv 4)) (de_var (pv 7))) dgs_nil)))))) ds_nil) (ds_one (ds_set (i := 7) sc_insert.nd rfl (.inl rfl) (de_ix (de_ix (de_var (pv 0)) (de_var (pv 6)) (fun _ _ => rfl)) (de_add (de_index (de_ix (de_var (pv 0)) (de_var (pv 6)) (fun _ _ => rfl)) (da_cons (de_var (pv 7)) da_nil)) (de_int)) (fun _ _ => rfl)))))) (ds_cons (ds_asg (vs := []) (de_var (pv 6)) (dg_sub (de_var (pv 4)) (de_var (pv 7)))) (ds_cons (ds_expr (de_bmL PySem.F.slot_list_append PySem.F.type_list_append mt_append mtD_append (de_var (pv 5)) (da_cons (de_tup (da_cons (de_var (pv 6)) (da_cons (de_var (pv 7)) da_nil))) da_nil))) (ds_one (ds_ret (de_tup (da_cons (de_callTy call_tup2 callD_tup (by rfl) D.z_tuple (by decide +kernel) (da_cons (de_var (pv 4)) da_nil)) (da_cons (de_callTy call_tup2 callD_tup (by rfl) D.z_tuple (by decide +kernel) (da_cons (de_var (pv 5)) da_nil)) da_nil))))))))))))))) sem⟩
theorem ok_layout_of (D : Defs K mg base T) {g_insert : DRs} (C_insert : Cal P w K mg base T "insert" s_insert 1 ["probes", "rule", "layout", "key"] g_insert) {g_ : DRs} (ar : ∀ ds st Q, g_ ds st Q → ds.length = 3) (sem : ∀ ds st Q, g_ ds st Q → F_layout_of g_insert { nx := fun _ st' => Rt st Q .non st', rt := Rt st Q } (startD 5 ds) st) : Cal P w K mg base T "layout_of" s_layout_of 2 ["probes", "rule", "history"] g_ := by
  obtain ⟨f, fd, F, b, m⟩ := D.d_layout_of
  obtain ⟨f_insert, fd_insert, F_insert_, b_insert, g_insert_at, G_insert⟩ := C_insert
  obtain ⟨u_EMPTY, h_c_EMPTY, r_EMPTY⟩ := D.c_EMPTY
  exact ⟨f, fd, F, b, m, fnD_mk (k := 1) F sc_layout_of ar (fun cdv A outer s H E gd hr => (ds_cons (ds_set (i := 3) sc_layout_of.nd rfl (.inl rfl) (de_mul (de_tup (da_cons (de_globI (by rfl) h_c_EMPTY r_EMPTY) da_nil)) (de_callB call_len_seq callD_len (by rfl) D.z_len PySem.boot_len (da_cons (de_var (pv 1)) da_nil)))) (ds_cons (ds_for (vs := [4]) PassesOwn.never rfl (di_seq (de_var (pv 2))) (dg_name (i := 4) sc_layout_of.nd rfl (.inl rfl) (by decide)) (ds_one (ds_set (i := 3) sc_layout_of.nd rfl (.inl rfl) (de_ix (de_call G_insert gd (hr.mono (by omega)) (by rfl) g_insert_at F_insert_.kp b_insert (da_cons (de_var (pv 0)) (da_cons (de_var (pv 1)) (da_cons (de_var (pv 3)) (da_cons (de_var (pv 4)) da_nil))))) (de_int) (fun _ _ => rfl))))) (ds_one (ds_ret (de_var (pv 3))))))) sem⟩
theorem ok_rule_of_orders (D : Defs K mg base T) {g_table_of_order : DRs} (C_table_of_order : Cal P w K mg base T "table_of_order" s_table_of_order 1 ["order"] g_table_of_order) {g_ : DRs} (ar : ∀ ds st Q, g_ ds st Q → ds.length = 1) (sem : ∀ ds st Q, g_ ds st Q → F_rule_of_orders g_table_of_order { nx := fun _ st' => Rt st Q .non st', rt := Rt st Q } (startD 2 ds) st) : Cal P w K mg base T "rule_of_orders" s_rule_of_orders 2 ["orders"] g_ := by
  obtain ⟨f, fd, F, b, m⟩ := D.d_rule_of_orders
  obtain ⟨f_table_of_order, fd_table_of_order, F_table_of_order_, b_table_of_order, g_table_of_order_at, G_table_of_order⟩ := C_table_of_order
  exact ⟨f, fd, F, b, m, fnD_mk (k := 1) F sc_rule_of_orders ar (fun cdv A outer s H E gd hr => (ds_one (ds_ret (de_callTy call_tup2 callD_tup (by rfl) D.z_tuple (by decide +kernel) (da_cons (de_lcG finT_ok rfl sc_rule_of_orders.nd (di_seq (de_var (pv 0))) (blkOk_by (own := [("order", 1)]) (N := n_rule_of_orders) (sc := defScope s_rule_of_orders) (by decide +kernel)) (fun _ _ _ _ _ => (dg_name (i := 1) sc_rule_of_orders.nd rfl (.inl rfl) (by decide))) (fun _ _ _ _ _ => dts_nil) (fun _ _ _ _ _ => (de_call G_table_of_order gd (hr.mono (by omega)) (by rfl) g_table_of_order_at F_table_of_order_.kp b_table_of_order (da_cons (de_var (pv 1)) da_nil)))) da_nil))))) sem⟩
theorem ok_table_of_order (D : Defs K mg base T) {g_ : DRs} (ar : ∀ ds st Q, g_ ds st Q → ds.length = 1) (sem : ∀ ds st Q, g_ ds st Q → F_table_of_order { nx := fun _ st' => Rt st Q .non st', rt := Rt st Q } (startD 2 ds) st) : Cal P w K mg base T "table_of_order" s_table_of_order 1 ["order"] g_ := by
  obtain ⟨f, fd, F, b, m⟩ := D.d_table_of_order
  exact ⟨f, fd, F, b, m, fnD_mk (k := 0) F sc_table_of_order ar (fun cdv A outer s H E gd hr => (ds_one (ds_ret (de_callTy call_tup2 callD_tup (by rfl) D.z_tuple (by decide +kernel) (da_cons (de_lcG finT_ok rfl sc_table_of_order.nd (di_range1 (by rfl) D.z_range (da_cons (de_callB call_len_seq callD_len (by rfl) D.z_len PySem.boot_len (da_cons (de_var (pv 0)) da_nil)) da_nil)) (blkOk_by (own := [("key", 1)]) (N := n_table_of_order) (sc := defScope s_table_of_order) (by decide +kernel)) (fun _ _ _ _ _ => (dg_name (i := 1) sc_table_of_order.nd rfl (.inl rfl) (by decide))) (fun _ _ _ _ _ => dts_nil) (fun _ _ _ _ _ => (de_callTy call_tup2 callD_tup (by rfl) D.z_tuple (by decide +kernel) (da_cons (de_callB call_sort2 (callD_sort (.inl rfl)) (by rfl) D.z_sorted (by decide +kernel) (da_cons (de_slice (.inl rfl) (de_var (pv 0)) (do_some (de_add (de_index (de_var (pv 0)) (da_cons (de_var (pv 1)) da_nil)) (de_int))) do_none) da_nil)) da_nil)))) da_nil))))) sem⟩
theorem ok_ring_at (D : Defs K mg base T) {g_ : DRs} (ar : ∀ ds st Q, g_ ds st Q → ds.length = 2) (sem : ∀ ds st Q, g_ ds st Q → F_ring_at { nx := fun _ st' => Rt st Q .non st', rt := Rt st Q } (startD 6 ds) st) : Cal P w K mg base T "ring_at" s_ring_at 1 ["rule", "slot"] g_ := by
  obtain ⟨f, fd, F, b, m⟩ := D.d_ring_at
  exact ⟨f, fd, F, b, m, fnD_mk (k := 0) F sc_ring_at ar (fun cdv A outer s H E gd hr => (ds_cons (ds_set (i := 2) sc_ring_at.nd rfl (.inl rfl) (de_ix (de_var (pv 0)) (de_var (pv 1)) (fun _ _ => rfl))) (ds_cons (ds_for (vs := [3]) PassesOwn.never rfl (di_range1 (by rfl) D.z_range (da_cons (de_callB call_len_seq callD_len (by rfl) D.z_len PySem.boot_len (da_cons (de_var (pv 2)) da_nil)) da_nil)) (dg_name (i := 3) sc_ring_at.nd rfl (.inl rfl) (by decide)) (ds_one (ds_for (vs := [4]) PassesOwn.never rfl (di_seq (de_ix (de_var (pv 2)) (de_var (pv 3)) (fun _ _ => rfl))) (dg_name (i := 4) sc_ring_at.nd rfl (.inl rfl) (by decide)) (ds_one (ds_for (vs := [5]) PassesOwn.never rfl (di_seq (de_ix (de_var (pv 2)) (de_var (pv 4)) (fun _ _ => rfl))) (dg_name (i := 5) sc_ring_at.nd rfl (.inl rfl) (by decide)) (ds_one (ds_if (dt_cmpR op_in_seq (opD_in false) (de_var (pv 3)) (de_ix (de_var (pv 2)) (de_var (pv 5)) (fun _ _ => rfl)) (by rfl)) (ds_one (ds_ret (de_tup (da_cons (de_var (pv 3)) (da_cons (de_var (pv 4)) (da_cons (de_var (pv 5)) da_nil)))))) ds_nil))))))) (ds_one (ds_ret (de_non)))))) sem⟩
theorem ok_is_ordered (D : Defs K mg base T) {g_ring_at : DRs} (C_ring_at : Cal P w K mg base T "ring_at" s_ring_at 1 ["rule", "slot"] g_ring_at) {g_ : DRs} (ar : ∀ ds st Q, g_ ds st Q → ds.length = 1) (sem : ∀ ds st Q, g_ ds st Q → F_is_ordered g_ring_at { nx := fun _ st' => Rt st Q .non st', rt := Rt st Q } (startD 2 ds) st) : Cal P w K mg base T "is_ordered" s_is_ordered 2 ["rule"] g_ := by
  obtain ⟨f, fd, F, b, m⟩ := D.d_is_ordered
  obtain ⟨f_ring_at, fd_ring_at, F_ring_at_, b_ring_at, g_ring_at_at, G_ring_at⟩ := C_ring_at
  exact ⟨f, fd, F, b, m, fnD_mk (k := 1) F sc_is_ordered ar (fun cdv A outer s H E gd hr => (ds_one (ds_ret (de_callB (cr_all rfl) (callD_all _) (by rfl) D.z_all (by decide +kernel) (da_cons (de_lcG finT_ok rfl sc_is_ordered.nd (di_range1 (by rfl) D.z_range (da_cons (de_callB call_len_seq callD_len (by rfl) D.z_len PySem.boot_len (da_cons (de_var (pv 0)) da_nil)) da_nil)) (blkOk_by (own := [("slot", 1)]) (N := n_is_ordered) (sc := defScope s_is_ordered) (by decide +kernel)) (fun _ _ _ _ _ => (dg_name (i := 1) sc_is_ordered.nd rfl (.inl rfl) (by decide))) (fun _ _ _ _ _ => dts_nil) (fun _ _ _ _ _ => (de_isN (de_call G_ring_at gd (hr.mono (by omega)) (by rfl) g_ring_at_at F_ring_at_.kp b_ring_at (da_cons (de_var (pv 0)) (da_cons (de_var (pv 1)) da_nil)))))) da_nil))))) sem⟩
theorem ok_farther_rule (D : Defs K mg base T) {g_rule_of_orders : DRs} (C_rule_of_orders : Cal P w K mg base T "rule_of_orders" s_rule_of_orders 2 ["orders"] g_rule_of_orders) {g_farther_order : DRs} (C_farther_order : Cal P w K mg base T "farther_order" s_farther_order 4 ["probes", "slot"] g_farther_order) {g_ : DRs} (ar : ∀ ds st Q, g_ ds st Q → ds.length = 1) (sem : ∀ ds st Q, g_ ds st Q → F_farther_rule g_rule_of_orders g_farther_order { nx := fun _ st' => Rt st Q .non st', rt := Rt st Q } (startD 2 ds) st) : Cal P w K mg base T "farther_rule" s_farther_rule 5 ["probes"] g_ := by
  obtain ⟨f, fd, F, b, m⟩ := D.d_farther_rule
  obtain ⟨f_rule_of_orders, fd_rule_of_orders, F_rule_of_orders_, b_rule_of_orders, g_rule_of_orders_at, G_rule_of_orders⟩ := C_rule_of_orders
  obtain ⟨f_farther_order, fd_farther_order, F_farther_order_, b_farther_order, g_farther_order_at, G_farther_order⟩ := C_farther_order
  exact ⟨f, fd, F, b, m, fnD_mk (k := 4) F sc_farther_rule ar (fun cdv A outer s H E gd hr => (ds_one (ds_ret (de_call G_rule_of_orders gd (hr.mono (by omega)) (by rfl) g_rule_of_orders_at F_rule_of_orders_.kp b_rule_of_orders (da_cons (de_callTy call_tup2 callD_tup (by rfl) D.z_tuple (by decide +kernel) (da_cons (de_lcG finT_ok rfl sc_farther_rule.nd (di_range1 (by rfl) D.z_range (da_cons (de_callB call_len_seq callD_len (by rfl) D.z_len PySem.boot_len (da_cons (de_ix (de_var (pv 0)) (de_int) (fun _ _ => rfl)) da_nil)) da_nil)) (blkOk_by (own := [("slot", 1)]) (N := n_farther_rule) (sc := defScope s_farther_rule) (by decide +kernel)) (fun _ _ _ _ _ => (dg_name (i := 1) sc_farther_rule.nd rfl (.inl rfl) (by decide))) (fun _ _ _ _ _ => dts_nil) (fun _ _ _ _ _ => (de_call G_farther_order gd (hr.mono (by omega)) (by rfl) g_farther_order_at F_farther_order_.kp b_farther_order (da_cons (de_var (pv 0)) (da_cons (de_var (pv 1)) da_nil))))) da_nil)) da_nil))))) sem⟩
theorem ok_farther_order (D : Defs K mg base T) {g_ : DRs} (ar : ∀ ds st Q, g_ ds st Q → ds.length = 2) (sem : ∀ ds st Q, g_ ds st Q → F_farther_order { nx := fun _ st' => Rt st Q .non st', rt := Rt st Q } (startD 2 ds) st) : Cal P w K mg base T "farther_order" s_farther_order 4 ["probes", "slot"] g_ := by
  obtain ⟨f, fd, F, b, m, c, Pt, code, TB, hT, hT1⟩ := D.d_farther_order
  exact ⟨f, fd, F, b, m, fnD_code (k := 3) F sc_farther_order ar (fun A outer s H E gd hr => (ds_one (ds_ret (de_callTy call_tup2 callD_tup (by rfl) D.z_tuple (by decide +kernel) (da_cons (de_sortR (.inl rfl) (k := 0) (x := "key") rfl (by rfl) D.z_sorted (by rfl) D.z_range (de_callB call_len_seq callD_len (by rfl) D.z_len PySem.boot_len (da_cons (de_var (pv 0)) da_nil)) TB code hT hT1 (hr.mono (by omega)) (lamP_by (by show lamPB (defScope s_farther_order) _ _ = true; decide +kernel)) (by show ("key" : Str) ∉ n_farther_order; decide +kernel) rfl (fun _ _ _ _ _ _ => rfl) (fun A s H f c' _ => (dp_tup2 (dp_neg (dp_index (dp_ix (dp_var (pv 0)) (dp_var (pv 2)) (fun _ _ => rfl)) (dp_var (pv 1)))) (dp_var (pv 2))))) da_nil))))) sem⟩
theorem ok__law_pot (D : Defs K mg base T) {g_ : DRs} (ar : ∀ ds st Q, g_ ds st Q → ds.length = 2) (sem : ∀ ds st Q, g_ ds st Q → F__law_pot { nx := fun _ st' => Rt st Q .non st', rt := Rt st Q } (startD 4 ds) st) : Cal P w K mg base T "_law_pot" s__law_pot 1 ["_law_script", "_law_k"] g_ := by
  obtain ⟨f, fd, F, b, m⟩ := D.d__law_pot
  exact ⟨f, fd, F, b, m, fnD_mk (k := 0) F sc__law_pot ar (fun cdv A outer s H E gd hr => (ds_cons (ds_set (i := 2) sc__law_pot.nd rfl (.inl rfl) (de_if (dt_cmpR (op_ltG (Nat.lt_of_le_of_lt (Nat.le_add_right _ _) hr.units)) opD_ltG (de_var (pv 1)) (de_callB call_len_seq callD_len (by rfl) D.z_len PySem.boot_len (da_cons (de_var (pv 0)) da_nil)) (nomark _)) (de_ix (de_var (pv 0)) (de_var (pv 1)) (fun _ _ => rfl)) (de_add (de_mul (de_int) (de_var (pv 1))) (de_int)))) (ds_cons (ds_set (i := 3) sc__law_pot.nd rfl (.inl rfl) (de_if (dt_cmpR op_ge (opD_I0 fun _ _ _ _ => .bl _) (de_callB call_abs callD_abs (by rfl) D.z_abs (by decide +kernel) (da_cons (de_var (pv 2)) da_nil)) (de_pow (de_int) (de_int)) (nomark _)) (de_mod (de_callB call_abs callD_abs (by rfl) D.z_abs (by decide +kernel) (da_cons (de_var (pv 2)) da_nil)) (de_pow (de_pow (de_int) (de_int)) (de_int))) (de_int))) (ds_one (ds_ret (de_lstN (da_cons (de_var (pv 3)) (da_cons (de_mod (de_add (de_add (de_mul (de_mod (de_var (pv 2)) (de_int)) (de_int)) (de_mul (de_mul (de_int) (de_var (pv 1))) (de_var (pv 1)))) (de_int)) (de_int)) (da_cons (de_int) da_nil))))))))) sem⟩
theorem ok__law_take (D : Defs K mg base T) {g_ : DRs} (ar : ∀ ds st Q, g_ ds st Q → ds.length = 2) (sem : ∀ ds st Q, g_ ds st Q → F__law_take { nx := fun _ st' => Rt st Q .non st', rt := Rt st Q } (startD 5 ds) st) : Cal P w K mg base T "_law_take" s__law_take 1 ["_law_pot_here", "_law_size"] g_ := by
  obtain ⟨f, fd, F, b, m⟩ := D.d__law_take
  exact ⟨f, fd, F, b, m, fnD_mk (k := 0) F sc__law_take ar (fun cdv A outer s H E gd hr => (ds_cons (ds_if (dt_cmpR op_gt (opD_I0 fun _ _ _ _ => .bl _) (de_ix (de_var (pv 0)) (de_int) (fun _ _ => rfl)) (de_int) (nomark _)) (ds_cons (ds_set (i := 2) sc__law_take.nd rfl (.inl rfl) (de_mod (de_ix (de_var (pv 0)) (de_int) (fun _ _ => rfl)) (de_var (pv 1)))) (ds_cons (ds_asg (vs := []) (de_div (de_ix (de_var (pv 0)) (de_int) (fun _ _ => rfl)) (de_var (pv 1))) (dg_sub (de_var (pv 0)) (de_int))) (ds_one (ds_ret (de_var (pv 2)))))) ds_nil) (ds_cons (ds_asg (vs := []) (de_add (de_ix (de_var (pv 0)) (de_int) (fun _ _ => rfl)) (de_int)) (dg_sub (de_var (pv 0)) (de_int))) (ds_cons (ds_set (i := 3) sc__law_take.nd rfl (.inl rfl) (de_ix (de_lst (da_cons (de_int) (da_cons (de_int) (da_cons (de_int) (da_cons (de_int) (da_cons (de_int) da_nil)))))) (de_mod (de_ix (de_var (pv 0)) (de_int) (fun _ _ => rfl)) (de_int)) (fun _ _ => rfl))) (ds_cons (ds_set (i := 4) sc__law_take.nd rfl (.inl rfl) (de_mod (de_pow (de_add (de_add (de_ix (de_var (pv 0)) (de_int) (fun _ _ => rfl)) (de_mul (de_mul (de_int) (de_ix (de_var (pv 0)) (de_int) (fun _ _ => rfl))) (de_ix (de_var (pv 0)) (de_int) (fun _ _ => rfl)))) (de_int)) (de_int)) (de_var (pv 3)))) (ds_one (ds_ret (de_mod (de_div (de_mod (de_mul (de_var (pv 4)) (de_add (de_mod (de_var (pv 4)) (de_int)) (de_mul (de_int) (de_ix (de_var (pv 0)) (de_int) (fun _ _ => rfl))))) (de_int)) (de_int)) (de_var (pv 1)))))))))) sem⟩
theorem ok__law_pick (D : Defs K mg base T) {g__law_take : DRs} (C__law_take : Cal P w K mg base T "_law_take" s__law_take 1 ["_law_pot_here", "_law_size"] g__law_take) {g_ : DRs} (ar : ∀ ds st Q, g_ ds st Q → ds.length = 2) (sem : ∀ ds st Q, g_ ds st Q → F__law_pick g__law_take { nx := fun _ st' => Rt st Q .non st', rt := Rt st Q } (startD 2 ds) st) : Cal P w K mg base T "_law_pick" s__law_pick 2 ["_law_pot_here", "_law_some"] g_ := by
  obtain ⟨f, fd, F, b, m⟩ := D.d__law_pick
  obtain ⟨f__law_take, fd__law_take, F__law_take_, b__law_take, g__law_take_at, G__law_take⟩ := C__law_take
  exact ⟨f, fd, F, b, m, fnD_mk (k := 1) F sc__law_pick ar (fun cdv A outer s H E gd hr => (ds_one (ds_ret (de_ix (de_var (pv 1)) (de_call G__law_take gd (hr.mono (by omega)) (by rfl) g__law_take_at F__law_take_.kp b__law_take (da_cons (de_var (pv 0)) (da_cons (de_callB call_len_seq callD_len (by rfl) D.z_len PySem.boot_len (da_cons (de_var (pv 1)) da_nil)) da_nil))) (fun _ _ => rfl))))) sem⟩
theorem ok__law_mixed (D : Defs K mg base T) {g__law_take : DRs} (C__law_take : Cal P w K mg base T "_law_take" s__law_take 1 ["_law_pot_here", "_law_size"] g__law_take) {g_ : DRs} (ar : ∀ ds st Q, g_ ds st Q → ds.length = 2) (sem : ∀ ds st Q, g_ ds st Q → F__law_mixed g__law_take { nx := fun _ st' => Rt st Q .non st', rt := Rt st Q } (startD 4 ds) st) : Cal P w K mg base T "_law_mixed" s__law_mixed 2 ["_law_pot_here", "_law_some"] g_ := by
  obtain ⟨f, fd, F, b, m⟩ := D.d__law_mixed
  obtain ⟨f__law_take, fd__law_take, F__law_take_, b__law_take, g__law_take_at, G__law_take⟩ := C__law_take
  exact ⟨f, fd, F, b, m, fnD_mk (k := 1) F sc__law_mixed ar (fun cdv A outer s H E gd hr => (ds_cons (ds_par (i := 2) (j := 3) rfl sc__law_mixed.nd rfl rfl (by decide) rfl rfl (da_cons (de_callTy call_list_of callD_listN (by rfl) D.z_list (by decide +kernel) (da_cons (de_var (pv 1)) da_nil)) (da_cons (de_lstN da_nil) da_nil)) (by rfl)) (ds_cons (ds_while PassesOwn.never (dt_cmpR (op_ne2 hr.units) opD_ne (de_var (pv 2)) (de_lst da_nil) (nomark _)) (ds_one (ds_expr (de_bmL PySem.F.slot_list_append PySem.F.type_list_append mt_append mtD_append (de_var (pv 3)) (da_cons (de_bmL PySem.F.slot_list_pop PySem.F.type_list_pop mt_popAt mtD_popAt (de_var (pv 2)) (da_cons (de_call G__law_take gd (hr.mono (by omega)) (by rfl) g__law_take_at F__law_take_.kp b__law_take (da_cons (de_var (pv 0)) (da_cons (de_callB call_len_seq callD_len (by rfl) D.z_len PySem.boot_len (da_cons (de_var (pv 2)) da_nil)) da_nil))) da_nil)) da_nil))))) (ds_one (ds_ret (de_var (pv 3))))))) sem⟩
theorem ok__law_line (D : Defs K mg base T) {g_ : DRs} (ar : ∀ ds st Q, g_ ds st Q → ds.length = 2) (sem : ∀ ds st Q, g_ ds st Q → F__law_line { nx := fun _ st' => Rt st Q .non st', rt := Rt st Q } (startD 3 ds) st) : Cal P w K mg base T "_law_line" s__law_line 1 ["_law_size", "_law_begin"] g_ := by
  obtain ⟨f, fd, F, b, m⟩ := D.d__law_line
  exact ⟨f, fd, F, b, m, fnD_mk (k := 0) F sc__law_line ar (fun cdv A outer s H E gd hr => (ds_one (ds_ret (de_callTy call_tup2 callD_tup (by rfl) D.z_tuple (by decide +kernel) (da_cons (de_lcG finT_ok rfl sc__law_line.nd (di_range1 (by rfl) D.z_range (da_cons (de_var (pv 0)) da_nil)) (blkOk_by (own := [("_law_at", 2)]) (N := n__law_line) (sc := defScope s__law_line) (by decide +kernel)) (fun _ _ _ _ _ => (dg_name (i := 2) sc__law_line.nd rfl (.inl rfl) (by decide))) (fun _ _ _ _ _ => dts_nil) (fun _ _ _ _ _ => (de_mod (de_add (de_var (pv 1)) (de_var (pv 2))) (de_var (pv 0))))) da_nil))))) sem⟩
theorem ok__law_line_setting (D : Defs K mg base T) {g__law_take : DRs} (C__law_take : Cal P w K mg base T "_law_take" s__law_take 1 ["_law_pot_here", "_law_size"] g__law_take) {g__law_pick : DRs} (C__law_pick : Cal P w K mg base T "_law_pick" s__law_pick 2 ["_law_pot_here", "_law_some"] g__law_pick) {g__law_line : DRs} (C__law_line : Cal P w K mg base T "_law_line" s__law_line 1 ["_law_size", "_law_begin"] g__law_line) {g_ : DRs} (ar : ∀ ds st Q, g_ ds st Q → ds.length = 3) (sem : ∀ ds st Q, g_ ds st Q → F__law_line_setting g__law_take g__law_pick g__law_line { nx := fun _ st' => Rt st Q .non st', rt := Rt st Q } (startD 6 ds) st) : Cal P w K mg base T "_law_line_setting" s__law_line_setting 3 ["_law_pot_here", "_law_many", "_law_spots"] g_ := by
  obtain ⟨f, fd, F, b, m⟩ := D.d__law_line_setting
  obtain ⟨f__law_take, fd__law_take, F__law_take_, b__law_take, g__law_take_at, G__law_take⟩ := C__law_take
  obtain ⟨f__law_pick, fd__law_pick, F__law_pick_, b__law_pick, g__law_pick_at, G__law_pick⟩ := C__law_pick
  obtain ⟨f__law_line, fd__law_line, F__law_line_, b__law_line, g__law_line_at, G__law_line⟩ := C__law_line
  exact ⟨f, fd, F, b, m, fnD_mk (k := 2) F sc__law_line_setting ar (fun cdv A outer s H E gd hr => (ds_cons (ds_setLcG (i := 3) finT_ok rfl sc__law_line_setting.nd rfl rfl (sw_true rfl rfl rfl (by decide +kernel)) (di_range1 (by rfl) D.z_range (da_cons (de_var (pv 1)) da_nil)) (blkOk_by (own := [("_law_one", 4)]) (N := n__law_line_setting) (sc := defScope s__law_line_setting) (by decide +kernel)) (fun _ _ _ _ _ => (dg_name (i := 4) sc__law_line_setting.nd rfl (.inl rfl) (by decide))) (fun _ _ _ _ _ => dts_nil) (fun _ _ _ _ _ => (de_call G__law_pick gd (hr.mono (by omega)) (by rfl) g__law_pick_at F__law_pick_.kp b__law_pick (da_cons (de_var (pv 0)) (da_cons (de_lst (da_cons (de_call G__law_take gd (hr.mono (by omega)) (by rfl) g__law_take_at F__law_take_.kp b__law_take (da_cons (de_var (pv 0)) (da_cons (de_var (pv 2)) da_nil))) (da_cons (de_call G__law_take gd (hr.mono (by omega)) (by rfl) g__law_take_at F__law_take_.kp b__law_take (da_cons (de_var (pv 0)) (da_cons (de_add (de_int) (de_div (de_var (pv 2)) (de_int))) da_nil))) da_nil))) da_nil))))) (ds_one (ds_ret (de_tup (da_cons (de_var (pv 3)) (da_cons (de_callTy call_tup2 callD_tup (by rfl) D.z_tuple (by decide +kernel) (da_cons (de_lcG finT_ok rfl sc__law_line_setting.nd (di_seq (de_var (pv 3))) (blkOk_by (own := [("_law_home", 5)]) (N := n__law_line_setting) (sc := defScope s__law_line_setting) (by decide +kernel)) (fun _ _ _ _ _ => (dg_name (i := 5) sc__law_line_setting.nd rfl (.inl rfl) (by decide))) (fun _ _ _ _ _ => dts_nil) (fun _ _ _ _ _ => (de_call G__law_line gd (hr.mono (by omega)) (by rfl) g__law_line_at F__law_line_.kp b__law_line (da_cons (de_var (pv 2)) (da_cons (de_var (pv 5)) da_nil))))) da_nil)) da_nil))))))) sem⟩
theorem ok__law_worths (D : Defs K mg base T) {g_ : DRs} (ar : ∀ ds st Q, g_ ds st Q → ds.length = 3) (sem : ∀ ds st Q, g_ ds st Q → F__law_worths { nx := fun _ st' => Rt st Q .non st', rt := Rt st Q } (startD 6 ds) st) : Cal P w K mg base T "_law_worths" s__law_worths 1 ["_law_homes", "_law_pairs", "_law_size"] g_ := by
  obtain ⟨f, fd, F, b, m⟩ := D.d__law_worths
  exact ⟨f, fd, F, b, m, fnD_mk (k := 0) F sc__law_worths ar (fun cdv A outer s H E gd hr => (ds_cons (ds_setLcG (i := 3) finT_ok rfl sc__law_worths.nd rfl rfl (sw_true rfl rfl rfl (by decide +kernel)) (di_seq (de_var (pv 1))) (blkOk_by (own := [("_law_one", 4), ("_law_spot", 5)]) (N := n__law_worths) (sc := defScope s__law_worths) (by decide +kernel)) (fun _ _ _ _ _ => (dg_tup rfl (dgs_cons (dg_name (i := 4) sc__law_worths.nd rfl (.inl rfl) (by decide)) (dgs_cons (dg_name (i := 5) sc__law_worths.nd rfl (.inl rfl) (by decide)) dgs_nil)))) (fun _ _ _ _ _ => dts_nil) (fun _ _ _ _ _ => (de_mod (de_sub (de_var (pv 5)) (de_ix (de_var (pv 0)) (de_var (pv 4)) (fun _ _ => rfl))) (de_var (pv 2))))) (ds_one (ds_ret (de_tup (da_cons (de_callB (cr_max2' rfl) callD_maxL (by rfl) D.z_max (by decide +kernel) (da_cons (de_add (de_lst (da_cons (de_int) da_nil)) (de_var (pv 3))) da_nil)) (da_cons (de_callB (cr_sum2 rfl) callD_sum (by rfl) D.z_sum (by decide +kernel) (da_cons (de_lcG finT_ok rfl sc__law_worths.nd (di_seq (de_var (pv 3))) (blkOk_by (own := [("_law_one", 4)]) (N := n__law_worths) (sc := defScope s__law_worths) (by decide +kernel)) (fun _ _ _ _ _ => (dg_name (i := 4) sc__law_worths.nd rfl (.inl rfl) (by decide))) (fun _ _ _ _ _ => dts_nil) (fun _ _ _ _ _ => (de_mul (de_var (pv 4)) (de_var (pv 4))))) da_nil)) da_nil))))))) sem⟩
theorem ok__law_all_ways (D : Defs K mg base T) {g_ : DRs} (ar : ∀ ds st Q, g_ ds st Q → ds.length = 2) (sem : ∀ ds st Q, g_ ds st Q → F__law_all_ways { nx := fun _ st' => Rt st Q .non st', rt := Rt st Q } (startD 7 ds) st) : Cal P w K mg base T "_law_all_ways" s__law_all_ways 1 ["_law_many", "_law_spots"] g_ := by
  obtain ⟨f, fd, F, b, m⟩ := D.d__law_all_ways
  exact ⟨f, fd, F, b, m, fnD_mk (k := 0) F sc__law_all_ways ar (fun cdv A outer s H E gd hr => (ds_cons (ds_set (i := 2) sc__law_all_ways.nd rfl (.inl rfl) (de_lst (da_cons (de_tup da_nil) da_nil))) (ds_cons (ds_for (vs := [3]) PassesOwn.never rfl (di_range1 (by rfl) D.z_range (da_cons (de_var (pv 0)) da_nil)) (dg_name (i := 3) sc__law_all_ways.nd rfl (.inl rfl) (by decide)) (ds_cons (ds_set (i := 4) sc__law_all_ways.nd rfl (.inl rfl) (de_lstN da_nil)) (ds_cons (ds_for (vs := [5]) PassesOwn.never rfl (di_seq (de_var (pv 2))) (dg_name (i := 5) sc__law_all_ways.nd rfl (.inr rfl) (by decide)) (ds_one (ds_expr (de_bmL PySem.F.slot_list_extend PySem.F.type_list_extend mt_extend mtD_extend (de_var (pv 4)) (da_cons (de_lcG finT_ok rfl sc__law_all_ways.nd (di_seq (de_var (pv 1))) (blkOk_by (own := [("_law_spot", 6)]) (N := n__law_all_ways) (sc := defScope s__law_all_ways) (by decide +kernel)) (fun _ _ _ _ _ => (dg_name (i := 6) sc__law_all_ways.nd rfl (.inl rfl) (by decide))) (fun _ _ _ _ _ => (dts_one (dt_cmpR op_notIn_seq (opD_in true) (de_var (pv 6)) (de_var (pv 5)) (by rfl)))) (fun _ _ _ _ _ => (de_add (de_var (pv 5)) (de_tup (da_cons (de_var (pv 6)) da_nil))))) da_nil))))) (ds_one (ds_set (i := 2) sc__law_all_ways.nd rfl (.inl rfl) (de_var (pv 4))))))) (ds_one (ds_ret (de_var (pv 2))))))) sem⟩
set_option maxHeartbeats 0 in
theorem ok__law_setting_right (D : Defs K mg base T) {g_taken : DRs} (C_taken : Cal P w K mg base T "taken" s_taken 4 ["counts"] g_taken) {g_greatest_distance : DRs} (C_greatest_distance : Cal P w K mg base T "greatest_distance" s_greatest_distance 5 ["counts"] g_greatest_distance) {g_square_sum : DRs} (C_square_sum : Cal P w K mg base T "square_sum" s_square_sum 5 ["counts"] g_square_sum) {g_layout_of : DRs} (C_layout_of : Cal P w K mg base T "layout_of" s_layout_of 2 ["probes", "rule", "history"] g_layout_of) {g_is_ordered : DRs} (C_is_ordered : Cal P w K mg base T "is_ordered" s_is_ordered 2 ["rule"] g_is_ordered) {g_farther_rule : DRs} (C_farther_rule : Cal P w K mg base T "farther_rule" s_farther_rule 5 ["probes"] g_farther_rule) {g__law_mixed : DRs} (C__law_mixed : Cal P w K mg base T "_law_mixed" s__law_mixed 2 ["_law_pot_here", "_law_some"] g__law_mixed) {g__law_line_setting : DRs} (C__law_line_setting : Cal P w K mg base T "_law_line_setting" s__law_line_setting 3 ["_law_pot_here", "_law_many", "_law_spots"] g__law_line_setting) {g__law_worths : DRs} (C__law_worths : Cal P w K mg base T "_law_worths" s__law_worths 1 ["_law_homes", "_law_pairs", "_law_size"] g__law_worths) {g__law_all_ways : DRs} (C__law_all_ways : Cal P w K mg base T "_law_all_ways" s__law_all_ways 1 ["_law_many", "_law_spots"] g__law_all_ways) {g_ : DRs} (ar : ∀ ds st Q, g_ ds st Q → ds.length = 3) (sem : ∀ ds st Q, g_ ds st Q → F__law_setting_right g_taken g_greatest_distance g_square_sum g_layout_of g_is_ordered g_farther_rule g__law_mixed g__law_line_setting g__law_worths g__law_all_ways { nx := fun _ st' => Rt st Q .non st', rt := Rt st Q } (startD 17 ds) st) : Cal P w K mg base T "_law_setting_right" s__law_setting_right 6 ["_law_pot_here", "_law_many", "_law_spots"] g_ := by
  obtain ⟨f, fd, F, b, m⟩ := D.d__law_setting_right
  obtain ⟨f_taken, fd_taken, F_taken_, b_taken, g_taken_at, G_taken⟩ := C_taken
  obtain ⟨f_greatest_distance, fd_greatest_distance, F_greatest_distance_, b_greatest_distance, g_greatest_distance_at, G_greatest_distance⟩ := C_greatest_distance
  obtain ⟨f_square_sum, fd_square_sum, F_square_sum_, b_square_sum, g_square_sum_at, G_square_sum⟩ := C_square_sum
  obtain ⟨f_layout_of, fd_layout_of, F_layout_of_, b_layout_of, g_layout_of_at, G_layout_of⟩ := C_layout_of
  obtain ⟨f_is_ordered, fd_is_ordered, F_is_ordered_, b_is_ordered, g_is_ordered_at, G_is_ordered⟩ := C_is_ordered
  obtain ⟨f_farther_rule, fd_farther_rule, F_farther_rule_, b_farther_rule, g_farther_rule_at, G_farther_rule⟩ := C_farther_rule
  obtain ⟨f__law_mixed, fd__law_mixed, F__law_mixed_, b__law_mixed, g__law_mixed_at, G__law_mixed⟩ := C__law_mixed
  obtain ⟨f__law_line_setting, fd__law_line_setting, F__law_line_setting_, b__law_line_setting, g__law_line_setting_at, G__law_line_setting⟩ := C__law_line_setting
  obtain ⟨f__law_worths, fd__law_worths, F__law_worths_, b__law_worths, g__law_worths_at, G__law_worths⟩ := C__law_worths
  obtain ⟨f__law_all_ways, fd__law_all_ways, F__law_all_ways_, b__law_all_ways, g__law_all_ways_at, G__law_all_ways⟩ := C__law_all_ways
  exact ⟨f, fd, F, b, m, fnD_mk (k := 5) F sc__law_setting_right ar (fun cdv A outer s H E gd hr => (ds_cons (ds_asg (vs := [3, 4]) (de_call G__law_line_setting gd (hr.mono (by omega)) (by rfl) g__law_line_setting_at F__law_line_setting_.kp b__law_line_setting (da_cons (de_var (pv 0)) (da_cons (de_var (pv 1)) (da_cons (de_var (pv 2)) da_nil)))) (dg_tup rfl (dgs_cons (dg_name (i := 3) sc__law_setting_right.nd rfl (.inr rfl) (by decide)) (dgs_cons (dg_name (i := 4) sc__law_setting_right.nd rfl (.inl rfl) (by decide)) dgs_nil)))) (ds_cons (ds_set (i := 5) sc__law_setting_right.nd rfl (.inl rfl) (de_call G_farther_rule gd (hr.mono (by omega)) (by rfl) g_farther_rule_at F_farther_rule_.kp b_farther_rule (da_cons (de_var (pv 4)) da_nil))) (ds_cons (ds_set (i := 6) sc__law_setting_right.nd rfl (.inl rfl) (de_call G_layout_of gd (hr.mono (by omega)) (by rfl) g_layout_of_at F_layout_of_.kp b_layout_of (da_cons (de_var (pv 4)) (da_cons (de_var (pv 5)) (da_cons (de_callTy call_tup2 callD_tup (by rfl) D.z_tuple (by decide +kernel) (da_cons (de_call G__law_mixed gd (hr.mono (by omega)) (by rfl) g__law_mixed_at F__law_mixed_.kp b__law_mixed (da_cons (de_var (pv 0)) (da_cons (de_listRg1 (.inl rfl) rfl (by rfl) D.z_list (by rfl) D.z_range (de_var (pv 1))) da_nil))) da_nil)) da_nil))))) (ds_cons (ds_set (i := 7) sc__law_setting_right.nd rfl (.inl rfl) (de_callTy call_tup2 callD_tup (by rfl) D.z_tuple (by decide +kernel) (da_cons (de_lcG finT_ok rfl sc__law_setting_right.nd (di_range1 (by rfl) D.z_range (da_cons (de_var (pv 2)) da_nil)) (blkOk_by (own := [("_law_spot", 16)]) (N := n__law_setting_right) (sc := defScope s__law_setting_right) (by decide +kernel)) (fun _ _ _ _ _ => (dg_name (i := 16) sc__law_setting_right.nd rfl (.inl rfl) (by decide))) (fun _ _ _ _ _ => dts_nil) (fun _ _ _ _ _ => (de_bmL PySem.F.slot_list_count PySem.F.type_list_count mt_lcount mtD_count (de_var (pv 3)) (da_cons (de_var (pv 16)) da_nil)))) da_nil))) (ds_cons (ds_setLcG (i := 9) finT_ok rfl sc__law_setting_right.nd rfl rfl (sw_true rfl rfl rfl (by decide +kernel)) (di_enum (by rfl) D.z_enumerate (da_cons (de_var (pv 6)) da_nil)) (blkOk_by (own := [("_law_spot", 16), ("_law_one", 8)]) (N := n__law_setting_right) (sc := defScope s__law_setting_right) (by decide +kernel)) (fun _ _ _ _ _ => (dg_tup rfl (dgs_cons (dg_name (i := 16) sc__law_setting_right.nd rfl (.inl rfl) (by decide)) (dgs_cons (dg_name (i := 8) sc__law_setting_right.nd rfl (.inl rfl) (by decide)) dgs_nil)))) (fun _ _ _ _ _ => (dts_one (dt_cmpR op_ge (opD_I0 fun _ _ _ _ => .bl _) (de_var (pv 8)) (de_int) (nomark _)))) (fun _ _ _ _ _ => (de_tup (da_cons (de_var (pv 8)) (da_cons (de_var (pv 16)) da_nil))))) (ds_cons (ds_set (i := 10) sc__law_setting_right.nd rfl (.inl rfl) (de_tup (da_cons (de_call G_greatest_distance gd (hr.mono (by omega)) (by rfl) g_greatest_distance_at F_greatest_distance_.kp b_greatest_distance (da_cons (de_var (pv 7)) da_nil)) (da_cons (de_call G_square_sum gd (hr.mono (by omega)) (by rfl) g_square_sum_at F_square_sum_.kp b_square_sum (da_cons (de_var (pv 7)) da_nil)) da_nil)))) (ds_cons (ds_if (PW.pt (dw_or (dt_not (dt_val (de_call G_is_ordered gd (hr.mono (by omega)) (by rfl) g_is_ordered_at F_is_ordered_.kp b_is_ordered (da_cons (de_var (pv 5)) da_nil)))) (dw_or1 (dt_cmpR (op_ne2 hr.units) opD_ne (de_lcG finT_ok rfl sc__law_setting_right.nd (di_seq (de_var (pv 9))) (blkOk_by (own := [("_law_one", 8), ("_law_spot", 16)]) (N := n__law_setting_right) (sc := defScope s__law_setting_right) (by decide +kernel)) (fun _ _ _ _ _ => (dg_tup rfl (dgs_cons (dg_name (i := 8) sc__law_setting_right.nd rfl (.inl rfl) (by decide)) (dgs_cons (dg_name (i := 16) sc__law_setting_right.nd rfl (.inl rfl) (by decide)) dgs_nil)))) (fun _ _ _ _ _ => dts_nil) (fun _ _ _ _ _ => (de_var (pv 16)))) (de_callTy call_list_of callD_listT (by rfl) D.z_list (by decide +kernel) (da_cons (de_call G_taken gd (hr.mono (by omega)) (by rfl) g_taken_at F_taken_.kp b_taken (da_cons (de_var (pv 7)) da_nil)) da_nil)) (nomark _))))) (ds_one (ds_ret (de_bl))) ds_nil) (ds_cons (ds_if (dt_cmpR (op_ne2 hr.units) opD_ne (de_call G__law_worths gd (hr.mono (by omega)) (by rfl) g__law_worths_at F__law_worths_.kp b__law_worths (da_cons (de_var (pv 3)) (da_cons (de_var (pv 9)) (da_cons (de_var (pv 2)) da_nil)))) (de_var (pv 10)) (nomark _)) (ds_one (ds_ret (de_bl))) ds_nil) (ds_cons (ds_if (dt_cmpR (op_ltG (Nat.lt_of_le_of_lt (Nat.le_add_right _ _) hr.units)) opD_ltG (de_var (pv 1)) (de_int) (nomark _)) (ds_one (ds_for (vs := [11]) PassesOwn.never rfl (di_seq (de_call G__law_all_ways gd (hr.mono (by omega)) (by rfl) g__law_all_ways_at F__law_all_ways_.kp b__law_all_ways (da_cons (de_var (pv 1)) (da_cons (de_call G_taken gd (hr.mono (by omega)) (by rfl) g_taken_at F_taken_.kp b_taken (da_cons (de_var (pv 7)) da_nil)) da_nil)))) (dg_name (i := 11) sc__law_setting_right.nd rfl (.inl rfl) (by decide)) (ds_cons (ds_asg (vs := [12, 13]) (de_call G__law_worths gd (hr.mono (by omega)) (by rfl) g__law_worths_at F__law_worths_.kp b__law_worths (da_cons (de_var (pv 3)) (da_cons (de_lenum rfl (by rfl) D.z_list (by rfl) D.z_enumerate (da_cons (de_var (pv 11)) da_nil)) (da_cons (de_var (pv 2)) da_nil)))) (dg_tup rfl (dgs_cons (dg_name (i := 12) sc__law_setting_right.nd rfl (.inl rfl) (by decide)) (dgs_cons (dg_name (i := 13) sc__law_setting_right.nd rfl (.inl rfl) (by decide)) dgs_nil)))) (ds_one (ds_if (PW.pt (dw_or (dt_cmpR (op_ltG (Nat.lt_of_le_of_lt (Nat.le_add_right _ _) hr.units)) opD_ltG (de_var (pv 12)) (de_ix (de_var (pv 10)) (de_int) (fun _ _ => rfl)) (nomark _)) (dw_or1 (dt_cmpR (op_ltG (Nat.lt_of_le_of_lt (Nat.le_add_right _ _) hr.units)) opD_ltG (de_var (pv 13)) (de_ix (de_var (pv 10)) (de_int) (fun _ _ => rfl)) (nomark _))))) (ds_one (ds_ret (de_bl))) ds_nil))))) ds_nil) (ds_cons (ds_for (vs := [8]) PassesOwn.never rfl (di_range1 (by rfl) D.z_range (da_cons (de_callB call_len_seq callD_len (by rfl) D.z_len PySem.boot_len (da_cons (de_var (pv 9)) da_nil)) da_nil)) (dg_name (i := 8) sc__law_setting_right.nd rfl (.inl rfl) (by decide)) (ds_one (ds_for (vs := [14]) PassesOwn.never rfl (di_range1 (by rfl) D.z_range (da_cons (de_var (pv 8)) da_nil)) (dg_name (i := 14) sc__law_setting_right.nd rfl (.inl rfl) (by decide)) (ds_cons (ds_set (i := 15) sc__law_setting_right.nd rfl (.inl rfl) (de_callTy call_list_of callD_listN (by rfl) D.z_list (by decide +kernel) (da_cons (de_var (pv 9)) da_nil))) (ds_cons (ds_asg (vs := []) (de_tup (da_cons (de_tup (da_cons (de_ix (de_ix (de_var (pv 9)) (de_var (pv 8)) (fun _ _ => rfl)) (de_int) (fun _ _ => rfl)) (da_cons (de_ix (de_ix (de_var (pv 9)) (de_var (pv 14)) (fun _ _ => rfl)) (de_int) (fun _ _ => rfl)) da_nil))) (da_cons (de_tup (da_cons (de_ix (de_ix (de_var (pv 9)) (de_var (pv 14)) (fun _ _ => rfl)) (de_int) (fun _ _ => rfl)) (da_cons (de_ix (de_ix (de_var (pv 9)) (de_var (pv 8)) (fun _ _ => rfl)) (de_int) (fun _ _ => rfl)) da_nil))) da_nil))) (dg_tup rfl (dgs_cons (dg_sub (de_var (pv 15)) (de_var (pv 8))) (dgs_cons (dg_sub (de_var (pv 15)) (de_var (pv 14))) dgs_nil)))) (ds_cons (ds_asg (vs := [12, 13]) (de_call G__law_worths gd (hr.mono (by omega)) (by rfl) g__law_worths_at F__law_worths_.kp b__law_worths (da_cons (de_var (pv 3)) (da_cons (de_var (pv 15)) (da_cons (de_var (pv 2)) da_nil)))) (dg_tup rfl (dgs_cons (dg_name (i := 12) sc__law_setting_right.nd rfl (.inl rfl) (by decide)) (dgs_cons (dg_name (i := 13) sc__law_setting_right.nd rfl (.inl rfl) (by decide)) dgs_nil)))) (ds_one (ds_if (PW.pt (dw_or (dt_cmpR (op_ltG (Nat.lt_of_le_of_lt (Nat.le_add_right _ _) hr.units)) opD_ltG (de_var (pv 12)) (de_ix (de_var (pv 10)) (de_int) (fun _ _ => rfl)) (nomark _)) (dw_or1 (dt_cmpR (op_ltG (Nat.lt_of_le_of_lt (Nat.le_add_right _ _) hr.units)) opD_ltG (de_var (pv 13)) (de_ix (de_var (pv 10)) (de_int) (fun _ _ => rfl)) (nomark _))))) (ds_one (ds_ret (de_bl))) ds_nil)))))))) (ds_one (ds_ret (de_bl)))))))))))))) sem⟩
theorem ok__law_right (D : Defs K mg base T) {g__law_take : DRs} (C__law_take : Cal P w K mg base T "_law_take" s__law_take 1 ["_law_pot_here", "_law_size"] g__law_take) {g__law_setting_right : DRs} (C__law_setting_right : Cal P w K mg base T "_law_setting_right" s__law_setting_right 6 ["_law_pot_here", "_law_many", "_law_spots"] g__law_setting_right) {g_ : DRs} (ar : ∀ ds st Q, g_ ds st Q → ds.length = 1) (sem : ∀ ds st Q, g_ ds st Q → F__law_right_v21 g__law_take g__law_setting_right { nx := fun _ st' => Rt st Q .non st', rt := Rt st Q } (startD 3 ds) st) : Cal P w K mg base T "_law_right" s__law_right 7 ["_law_pot_here"] g_ := by
  obtain ⟨f, fd, F, b, m⟩ := D.d__law_right
  obtain ⟨f__law_take, fd__law_take, F__law_take_, b__law_take, g__law_take_at, G__law_take⟩ := C__law_take
  obtain ⟨f__law_setting_right, fd__law_setting_right, F__law_setting_right_, b__law_setting_right, g__law_setting_right_at, G__law_setting_right⟩ := C__law_setting_right
  exact ⟨f, fd, F, b, m, fnD_mk (k := 6) F sc__law_right ar (fun cdv A outer s H E gd hr => (ds_cons (ds_for (vs := [1]) PassesOwn.never rfl (di_range1 (by rfl) D.z_range (da_cons (de_int) da_nil)) (dg_name (i := 1) sc__law_right.nd rfl (.inl rfl) (by decide)) (ds_cons (ds_set (i := 2) sc__law_right.nd rfl (.inl rfl) (de_add (de_int) (de_call G__law_take gd (hr.mono (by omega)) (by rfl) g__law_take_at F__law_take_.kp b__law_take (da_cons (de_var (pv 0)) (da_cons (de_int) da_nil))))) (ds_one (ds_if (dt_not (dt_val (de_call G__law_setting_right gd (hr.mono (by omega)) (by rfl) g__law_setting_right_at F__law_setting_right_.kp b__law_setting_right (da_cons (de_var (pv 0)) (da_cons (de_add (de_int) (de_call G__law_take gd (hr.mono (by omega)) (by rfl) g__law_take_at F__law_take_.kp b__law_take (da_cons (de_var (pv 0)) (da_cons (de_callB (call_min2 rfl) callD_2I (by rfl) D.z_min (by decide +kernel) (da_cons (de_int) (da_cons (de_var (pv 2)) da_nil))) da_nil)))) (da_cons (de_var (pv 2)) da_nil)))))) (ds_one (ds_ret (de_bl))) ds_nil)))) (ds_cons (ds_set (i := 2) sc__law_right.nd rfl (.inl rfl) (de_add (de_int) (de_call G__law_take gd (hr.mono (by omega)) (by rfl) g__law_take_at F__law_take_.kp b__law_take (da_cons (de_var (pv 0)) (da_cons (de_int) da_nil))))) (ds_one (ds_ret (de_call G__law_setting_right gd (hr.mono (by omega)) (by rfl) g__law_setting_right_at F__law_setting_right_.kp b__law_setting_right (da_cons (de_var (pv 0)) (da_cons (de_add (de_int) (de_call G__law_take gd (hr.mono (by omega)) (by rfl) g__law_take_at F__law_take_.kp b__law_take (da_cons (de_var (pv 0)) (da_cons (de_callB (call_min2 rfl) callD_2I (by rfl) D.z_min (by decide +kernel) (da_cons (de_int) (da_cons (de_sub (de_var (pv 2)) (de_int)) da_nil))) da_nil)))) (da_cons (de_var (pv 2)) da_nil))))))))) sem⟩
theorem ok_law (D : Defs K mg base T) {g__law_pot : DRs} (C__law_pot : Cal P w K mg base T "_law_pot" s__law_pot 1 ["_law_script", "_law_k"] g__law_pot) {g__law_right : DRs} (C__law_right : Cal P w K mg base T "_law_right" s__law_right 7 ["_law_pot_here"] g__law_right) {g_ : DRs} (ar : ∀ ds st Q, g_ ds st Q → ds.length = 1) (sem : ∀ ds st Q, g_ ds st Q → F_law_v9 g__law_pot g__law_right { nx := fun _ st' => Rt st Q .non st', rt := Rt st Q } (startD 2 ds) st) : Cal P w K mg base T "law" s_law 8 ["_law_script"] g_ := by
  obtain ⟨f, fd, F, b, m⟩ := D.d_law
  obtain ⟨f__law_pot, fd__law_pot, F__law_pot_, b__law_pot, g__law_pot_at, G__law_pot⟩ := C__law_pot
  obtain ⟨f__law_right, fd__law_right, F__law_right_, b__law_right, g__law_right_at, G__law_right⟩ := C__law_right
  exact ⟨f, fd, F, b, m, fnD_mk (k := 7) F sc_law ar (fun cdv A outer s H E gd hr => (ds_one (ds_ret (de_callB (cr_all rfl) (callD_all _) (by rfl) D.z_all (by decide +kernel) (da_cons (de_lcG finT_ok rfl sc_law.nd (di_range1 (by rfl) D.z_range (da_cons (de_callB (call_max2 rfl) callD_2I (by rfl) D.z_max (by decide +kernel) (da_cons (de_int) (da_cons (de_callB (call_min2 rfl) callD_2I (by rfl) D.z_min (by decide +kernel) (da_cons (de_int) (da_cons (de_callB call_len_seq callD_len (by rfl) D.z_len PySem.boot_len (da_cons (de_var (pv 0)) da_nil)) da_nil))) da_nil))) da_nil)) (blkOk_by (own := [("_law_k", 1)]) (N := n_law) (sc := defScope s_law) (by decide +kernel)) (fun _ _ _ _ _ => (dg_name (i := 1) sc_law.nd rfl (.inl rfl) (by decide))) (fun _ _ _ _ _ => dts_nil) (fun _ _ _ _ _ => (de_call G__law_right gd (hr.mono (by omega)) (by rfl) g__law_right_at F__law_right_.kp b__law_right (da_cons (de_call G__law_pot gd (hr.mono (by omega)) (by rfl) g__law_pot_at F__law_pot_.kp b__law_pot (da_cons (de_var (pv 0)) (da_cons (de_var (pv 1)) da_nil))) da_nil)))) da_nil))))) sem⟩
end
section
variable {P : Program} {w : World} {K : Frag} {mg : Str → Option Value} {base : Heap} {T : List (Addr × Str)}
theorem law_ok (D : Defs K mg base T) : Cal P w K mg base T "law" s_law 8 ["_law_script"] g_law := by
  have C__law_pot := ok__law_pot (P := P) (w := w) D ar_pot sem_pot
  have C__law_take := ok__law_take (P := P) (w := w) D ar_take sem_take
  have C_require_room := ok_require_room (P := P) (w := w) D ar_room sem_room
  have C_flow_behind := ok_flow_behind (P := P) (w := w) D ar_flowB sem_flowB
  have C_flows_behind := ok_flows_behind (P := P) (w := w) D C_require_room C_flow_behind ar_flowsB sem_flowsB
  have C_flows := ok_flows (P := P) (w := w) D C_flows_behind ar_flows sem_flows
  have C_taken := ok_taken (P := P) (w := w) D C_flows ar_taken sem_taken
  have C_waits := ok_waits (P := P) (w := w) D C_flows ar_waits sem_waits
  have C_greatest_distance := ok_greatest_distance (P := P) (w := w) D C_waits ar_great sem_great
  have C_square_sum := ok_square_sum (P := P) (w := w) D C_waits ar_sq sem_sq
  have C_insert := ok_insert (P := P) (w := w) D ar_insert sem_insert
  have C_layout_of := ok_layout_of (P := P) (w := w) D C_insert ar_layout sem_layout
  have C_ring_at := ok_ring_at (P := P) (w := w) D ar_ring sem_ring
  have C_is_ordered := ok_is_ordered (P := P) (w := w) D C_ring_at ar_isOrd sem_isOrd
  have C_table_of_order := ok_table_of_order (P := P) (w := w) D ar_tabOf sem_tabOf
  have C_rule_of_orders := ok_rule_of_orders (P := P) (w := w) D C_table_of_order ar_ruleOf sem_ruleOf
  have C_farther_order := ok_farther_order (P := P) (w := w) D ar_farOrd sem_farOrd
  have C_farther_rule := ok_farther_rule (P := P) (w := w) D C_rule_of_orders C_farther_order ar_farRule sem_farRule
  have C__law_mixed := ok__law_mixed (P := P) (w := w) D C__law_take ar_mixed sem_mixed
  have C__law_pick := ok__law_pick (P := P) (w := w) D C__law_take ar_pick sem_pick
  have C__law_line := ok__law_line (P := P) (w := w) D ar_line sem_line
  have C__law_line_setting := ok__law_line_setting (P := P) (w := w) D C__law_take C__law_pick C__law_line ar_lineS sem_lineS
  have C__law_worths := ok__law_worths (P := P) (w := w) D ar_worths sem_worths
  have C__law_all_ways := ok__law_all_ways (P := P) (w := w) D ar_ways sem_ways
  have C__law_setting_right := ok__law_setting_right (P := P) (w := w) D C_taken C_greatest_distance C_square_sum C_layout_of C_is_ordered C_farther_rule C__law_mixed C__law_line_setting C__law_worths C__law_all_ways ar_setR sem_setR
  have C__law_right := ok__law_right (P := P) (w := w) D C__law_take C__law_setting_right ar_right sem_right70
  have C_law := ok_law (P := P) (w := w) D C__law_pot C__law_right ar_law sem_law69
  exact C_law
end
theorem all_mk {l : PySem.W.OpenLaw} {w : World} {K : PySem.W.Frag} {h : Heap} {mg : Str → Option Value} {fa : Addr} (X : K.In h) (G : h.Ns mainGlobals mg) (hfa : mg "law" = some (.ref fa))
    {f1 f2 f3 f4 f5 f6 f7 f8 f9 f10 f11 f12 f13 f14 f15 f16 f17 f18 f19 f20 f21 f22 f23 f24 f25 f26 f27 : Addr} {od1 an1 od2 an2 od3 an3 od4 an4 od5 an5 od6 an6 od7 an7 od8 an8 od9 an9 od10 an10 od11 an11 od12 an12 od13 an13 od14 an14 od15 an15 od16 an16 od17 an17 od18 an18 od19 an19 od20 an20 od21 an21 od22 an22 od23 an23 od24 an24 od25 an25 od26 an26 od27 an27 : Option Addr} {sl1 sl2 sl3 sl4 sl5 sl6 sl7 sl8 sl9 sl10 sl11 sl12 sl13 sl14 sl15 sl16 sl17 sl18 sl19 sl20 sl21 sl22 sl23 sl24 sl25 sl26 sl27 : Array (Option Value)} {oc1 kV1 dc1 pm1 cd1 ct1 oc2 kV2 dc2 pm2 cd2 ct2 oc3 kV3 dc3 pm3 cd3 ct3 oc4 kV4 dc4 pm4 cd4 ct4 oc5 kV5 dc5 pm5 cd5 ct5 oc6 kV6 dc6 pm6 cd6 ct6 oc7 kV7 dc7 pm7 cd7 ct7 oc8 kV8 dc8 pm8 cd8 ct8 oc9 kV9 dc9 pm9 cd9 ct9 oc10 kV10 dc10 pm10 cd10 ct10 oc11 kV11 dc11 pm11 cd11 ct11 oc12 kV12 dc12 pm12 cd12 ct12 oc13 kV13 dc13 pm13 cd13 ct13 oc14 kV14 dc14 pm14 cd14 ct14 oc15 kV15 dc15 pm15 cd15 ct15 oc16 kV16 dc16 pm16 cd16 ct16 oc17 kV17 dc17 pm17 cd17 ct17 oc18 kV18 dc18 pm18 cd18 ct18 oc19 kV19 dc19 pm19 cd19 ct19 oc20 kV20 dc20 pm20 cd20 ct20 oc21 kV21 dc21 pm21 cd21 ct21 oc22 kV22 dc22 pm22 cd22 ct22 oc23 kV23 dc23 pm23 cd23 ct23 oc24 kV24 dc24 pm24 cd24 ct24 oc25 kV25 dc25 pm25 cd25 ct25 oc26 kV26 dc26 pm26 cd26 ct26 oc27 kV27 dc27 pm27 cd27 ct27 : Value}
    (a1 : PySem.W.nsIn K mainGlobals "flows" = some (some (.ref f1))) (l1 : K.lookup f1 = some ⟨oc1, od1, .func (PySem.W.fnOf "flows" "flows" (defArgs s_flows) (defBody s_flows) (defScope s_flows) .none kV1 dc1 pm1 an1 cd1 ct1), sl1⟩) (c1 : PySem.W.codeIn K cd1 "flows" = true) (k1 : PySem.W.keepIn K (.ref f1) = true)
    (a2 : PySem.W.nsIn K mainGlobals "flows_behind" = some (some (.ref f2))) (l2 : K.lookup f2 = some ⟨oc2, od2, .func (PySem.W.fnOf "flows_behind" "flows_behind" (defArgs s_flows_behind) (defBody s_flows_behind) (defScope s_flows_behind) .none kV2 dc2 pm2 an2 cd2 ct2), sl2⟩) (c2 : PySem.W.codeIn K cd2 "flows_behind" = true) (k2 : PySem.W.keepIn K (.ref f2) = true)
    (a3 : PySem.W.nsIn K mainGlobals "require_room" = some (some (.ref f3))) (l3 : K.lookup f3 = some ⟨oc3, od3, .func (PySem.W.fnOf "require_room" "require_room" (defArgs s_require_room) (defBody s_require_room) (defScope s_require_room) .none kV3 dc3 pm3 an3 cd3 ct3), sl3⟩) (c3 : PySem.W.codeIn K cd3 "require_room" = true) (k3 : PySem.W.keepIn K (.ref f3) = true)
    (a4 : PySem.W.nsIn K mainGlobals "flow_behind" = some (some (.ref f4))) (l4 : K.lookup f4 = some ⟨oc4, od4, .func (PySem.W.fnOf "flow_behind" "flow_behind" (defArgs s_flow_behind) (defBody s_flow_behind) (defScope s_flow_behind) .none kV4 dc4 pm4 an4 cd4 ct4), sl4⟩) (c4 : PySem.W.codeIn K cd4 "flow_behind" = true) (k4 : PySem.W.keepIn K (.ref f4) = true)
    (a5 : PySem.W.nsIn K mainGlobals "taken" = some (some (.ref f5))) (l5 : K.lookup f5 = some ⟨oc5, od5, .func (PySem.W.fnOf "taken" "taken" (defArgs s_taken) (defBody s_taken) (defScope s_taken) .none kV5 dc5 pm5 an5 cd5 ct5), sl5⟩) (c5 : PySem.W.codeIn K cd5 "taken" = true) (k5 : PySem.W.keepIn K (.ref f5) = true)
    (a6 : PySem.W.nsIn K mainGlobals "greatest_distance" = some (some (.ref f6))) (l6 : K.lookup f6 = some ⟨oc6, od6, .func (PySem.W.fnOf "greatest_distance" "greatest_distance" (defArgs s_greatest_distance) (defBody s_greatest_distance) (defScope s_greatest_distance) .none kV6 dc6 pm6 an6 cd6 ct6), sl6⟩) (c6 : PySem.W.codeIn K cd6 "greatest_distance" = true) (k6 : PySem.W.keepIn K (.ref f6) = true)
    (a7 : PySem.W.nsIn K mainGlobals "square_sum" = some (some (.ref f7))) (l7 : K.lookup f7 = some ⟨oc7, od7, .func (PySem.W.fnOf "square_sum" "square_sum" (defArgs s_square_sum) (defBody s_square_sum) (defScope s_square_sum) .none kV7 dc7 pm7 an7 cd7 ct7), sl7⟩) (c7 : PySem.W.codeIn K cd7 "square_sum" = true) (k7 : PySem.W.keepIn K (.ref f7) = true)
    (a8 : PySem.W.nsIn K mainGlobals "waits" = some (some (.ref f8))) (l8 : K.lookup f8 = some ⟨oc8, od8, .func (PySem.W.fnOf "waits" "waits" (defArgs s_waits) (defBody s_waits) (defScope s_waits) .none kV8 dc8 pm8 an8 cd8 ct8), sl8⟩) (c8 : PySem.W.codeIn K cd8 "waits" = true) (k8 : PySem.W.keepIn K (.ref f8) = true)
    (a9 : PySem.W.nsIn K mainGlobals "insert" = some (some (.ref f9))) (l9 : K.lookup f9 = some ⟨oc9, od9, .func (PySem.W.fnOf "insert" "insert" (defArgs s_insert) (defBody s_insert) (defScope s_insert) .none kV9 dc9 pm9 an9 cd9 ct9), sl9⟩) (c9 : PySem.W.codeIn K cd9 "insert" = true) (k9 : PySem.W.keepIn K (.ref f9) = true)
    (a10 : PySem.W.nsIn K mainGlobals "layout_of" = some (some (.ref f10))) (l10 : K.lookup f10 = some ⟨oc10, od10, .func (PySem.W.fnOf "layout_of" "layout_of" (defArgs s_layout_of) (defBody s_layout_of) (defScope s_layout_of) .none kV10 dc10 pm10 an10 cd10 ct10), sl10⟩) (c10 : PySem.W.codeIn K cd10 "layout_of" = true) (k10 : PySem.W.keepIn K (.ref f10) = true)
    (a11 : PySem.W.nsIn K mainGlobals "rule_of_orders" = some (some (.ref f11))) (l11 : K.lookup f11 = some ⟨oc11, od11, .func (PySem.W.fnOf "rule_of_orders" "rule_of_orders" (defArgs s_rule_of_orders) (defBody s_rule_of_orders) (defScope s_rule_of_orders) .none kV11 dc11 pm11 an11 cd11 ct11), sl11⟩) (c11 : PySem.W.codeIn K cd11 "rule_of_orders" = true) (k11 : PySem.W.keepIn K (.ref f11) = true)
    (a12 : PySem.W.nsIn K mainGlobals "table_of_order" = some (some (.ref f12))) (l12 : K.lookup f12 = some ⟨oc12, od12, .func (PySem.W.fnOf "table_of_order" "table_of_order" (defArgs s_table_of_order) (defBody s_table_of_order) (defScope s_table_of_order) .none kV12 dc12 pm12 an12 cd12 ct12), sl12⟩) (c12 : PySem.W.codeIn K cd12 "table_of_order" = true) (k12 : PySem.W.keepIn K (.ref f12) = true)
    (a13 : PySem.W.nsIn K mainGlobals "ring_at" = some (some (.ref f13))) (l13 : K.lookup f13 = some ⟨oc13, od13, .func (PySem.W.fnOf "ring_at" "ring_at" (defArgs s_ring_at) (defBody s_ring_at) (defScope s_ring_at) .none kV13 dc13 pm13 an13 cd13 ct13), sl13⟩) (c13 : PySem.W.codeIn K cd13 "ring_at" = true) (k13 : PySem.W.keepIn K (.ref f13) = true)
    (a14 : PySem.W.nsIn K mainGlobals "is_ordered" = some (some (.ref f14))) (l14 : K.lookup f14 = some ⟨oc14, od14, .func (PySem.W.fnOf "is_ordered" "is_ordered" (defArgs s_is_ordered) (defBody s_is_ordered) (defScope s_is_ordered) .none kV14 dc14 pm14 an14 cd14 ct14), sl14⟩) (c14 : PySem.W.codeIn K cd14 "is_ordered" = true) (k14 : PySem.W.keepIn K (.ref f14) = true)
    (a15 : PySem.W.nsIn K mainGlobals "farther_rule" = some (some (.ref f15))) (l15 : K.lookup f15 = some ⟨oc15, od15, .func (PySem.W.fnOf "farther_rule" "farther_rule" (defArgs s_farther_rule) (defBody s_farther_rule) (defScope s_farther_rule) .none kV15 dc15 pm15 an15 cd15 ct15), sl15⟩) (c15 : PySem.W.codeIn K cd15 "farther_rule" = true) (k15 : PySem.W.keepIn K (.ref f15) = true)
    (a16 : PySem.W.nsIn K mainGlobals "farther_order" = some (some (.ref f16))) (l16 : K.lookup f16 = some ⟨oc16, od16, .func (PySem.W.fnOf "farther_order" "farther_order" (defArgs s_farther_order) (defBody s_farther_order) (defScope s_farther_order) .none kV16 dc16 pm16 an16 cd16 ct16), sl16⟩) (c16 : PySem.W.codeIn K cd16 "farther_order" = true) (k16 : PySem.W.keepIn K (.ref f16) = true)
    (a17 : PySem.W.nsIn K mainGlobals "_law_pot" = some (some (.ref f17))) (l17 : K.lookup f17 = some ⟨oc17, od17, .func (PySem.W.fnOf "_law_pot" "_law_pot" (defArgs s__law_pot) (defBody s__law_pot) (defScope s__law_pot) .none kV17 dc17 pm17 an17 cd17 ct17), sl17⟩) (c17 : PySem.W.codeIn K cd17 "_law_pot" = true) (k17 : PySem.W.keepIn K (.ref f17) = true)
    (a18 : PySem.W.nsIn K mainGlobals "_law_take" = some (some (.ref f18))) (l18 : K.lookup f18 = some ⟨oc18, od18, .func (PySem.W.fnOf "_law_take" "_law_take" (defArgs s__law_take) (defBody s__law_take) (defScope s__law_take) .none kV18 dc18 pm18 an18 cd18 ct18), sl18⟩) (c18 : PySem.W.codeIn K cd18 "_law_take" = true) (k18 : PySem.W.keepIn K (.ref f18) = true)
    (a19 : PySem.W.nsIn K mainGlobals "_law_pick" = some (some (.ref f19))) (l19 : K.lookup f19 = some ⟨oc19, od19, .func (PySem.W.fnOf "_law_pick" "_law_pick" (defArgs s__law_pick) (defBody s__law_pick) (defScope s__law_pick) .none kV19 dc19 pm19 an19 cd19 ct19), sl19⟩) (c19 : PySem.W.codeIn K cd19 "_law_pick" = true) (k19 : PySem.W.keepIn K (.ref f19) = true)
    (a20 : PySem.W.nsIn K mainGlobals "_law_mixed" = some (some (.ref f20))) (l20 : K.lookup f20 = some ⟨oc20, od20, .func (PySem.W.fnOf "_law_mixed" "_law_mixed" (defArgs s__law_mixed) (defBody s__law_mixed) (defScope s__law_mixed) .none kV20 dc20 pm20 an20 cd20 ct20), sl20⟩) (c20 : PySem.W.codeIn K cd20 "_law_mixed" = true) (k20 : PySem.W.keepIn K (.ref f20) = true)
    (a21 : PySem.W.nsIn K mainGlobals "_law_line" = some (some (.ref f21))) (l21 : K.lookup f21 = some ⟨oc21, od21, .func (PySem.W.fnOf "_law_line" "_law_line" (defArgs s__law_line) (defBody s__law_line) (defScope s__law_line) .none kV21 dc21 pm21 an21 cd21 ct21), sl21⟩) (c21 : PySem.W.codeIn K cd21 "_law_line" = true) (k21 : PySem.W.keepIn K (.ref f21) = true)
    (a22 : PySem.W.nsIn K mainGlobals "_law_line_setting" = some (some (.ref f22))) (l22 : K.lookup f22 = some ⟨oc22, od22, .func (PySem.W.fnOf "_law_line_setting" "_law_line_setting" (defArgs s__law_line_setting) (defBody s__law_line_setting) (defScope s__law_line_setting) .none kV22 dc22 pm22 an22 cd22 ct22), sl22⟩) (c22 : PySem.W.codeIn K cd22 "_law_line_setting" = true) (k22 : PySem.W.keepIn K (.ref f22) = true)
    (a23 : PySem.W.nsIn K mainGlobals "_law_worths" = some (some (.ref f23))) (l23 : K.lookup f23 = some ⟨oc23, od23, .func (PySem.W.fnOf "_law_worths" "_law_worths" (defArgs s__law_worths) (defBody s__law_worths) (defScope s__law_worths) .none kV23 dc23 pm23 an23 cd23 ct23), sl23⟩) (c23 : PySem.W.codeIn K cd23 "_law_worths" = true) (k23 : PySem.W.keepIn K (.ref f23) = true)
    (a24 : PySem.W.nsIn K mainGlobals "_law_all_ways" = some (some (.ref f24))) (l24 : K.lookup f24 = some ⟨oc24, od24, .func (PySem.W.fnOf "_law_all_ways" "_law_all_ways" (defArgs s__law_all_ways) (defBody s__law_all_ways) (defScope s__law_all_ways) .none kV24 dc24 pm24 an24 cd24 ct24), sl24⟩) (c24 : PySem.W.codeIn K cd24 "_law_all_ways" = true) (k24 : PySem.W.keepIn K (.ref f24) = true)
    (a25 : PySem.W.nsIn K mainGlobals "_law_setting_right" = some (some (.ref f25))) (l25 : K.lookup f25 = some ⟨oc25, od25, .func (PySem.W.fnOf "_law_setting_right" "_law_setting_right" (defArgs s__law_setting_right) (defBody s__law_setting_right) (defScope s__law_setting_right) .none kV25 dc25 pm25 an25 cd25 ct25), sl25⟩) (c25 : PySem.W.codeIn K cd25 "_law_setting_right" = true) (k25 : PySem.W.keepIn K (.ref f25) = true)
    (a26 : PySem.W.nsIn K mainGlobals "_law_right" = some (some (.ref f26))) (l26 : K.lookup f26 = some ⟨oc26, od26, .func (PySem.W.fnOf "_law_right" "_law_right" (defArgs s__law_right) (defBody s__law_right) (defScope s__law_right) .none kV26 dc26 pm26 an26 cd26 ct26), sl26⟩) (c26 : PySem.W.codeIn K cd26 "_law_right" = true) (k26 : PySem.W.keepIn K (.ref f26) = true)
    (a27 : PySem.W.nsIn K mainGlobals "law" = some (some (.ref f27))) (l27 : K.lookup f27 = some ⟨oc27, od27, .func (PySem.W.fnOf "law" "law" (defArgs s_law) (defBody s_law) (defScope s_law) .none kV27 dc27 pm27 an27 cd27 ct27), sl27⟩) (c27 : PySem.W.codeIn K cd27 "law" = true) (k27 : PySem.W.keepIn K (.ref f27) = true)
    {lc1 lp1 : Addr} {ce1 : Value} {cdd1 : Option Addr} {cvs1 : Array Value} {csl1 : Array (Option Value)} (cdr1 : cd16 = .ref lc1) (lk1 : K.lookup lc1 = some ⟨ce1, cdd1, .fields cvs1, csl1⟩) (lv1 : cvs1[11]? = some (.ref lp1)) (out1 : K.lookup lp1 = none)
    {tm_EMPTY : Tok} (y_EMPTY : PySem.W.nsIn K mainGlobals "EMPTY" = some (some (.int (-1) tm_EMPTY)))
    (z_abs : PySem.W.nsIn K mainGlobals "abs" = some none)
    (z_all : PySem.W.nsIn K mainGlobals "all" = some none)
    (z_enumerate : PySem.W.nsIn K mainGlobals "enumerate" = some none)
    (z_len : PySem.W.nsIn K mainGlobals "len" = some none)
    (z_list : PySem.W.nsIn K mainGlobals "list" = some none)
    (z_max : PySem.W.nsIn K mainGlobals "max" = some none)
    (z_min : PySem.W.nsIn K mainGlobals "min" = some none)
    (z_range : PySem.W.nsIn K mainGlobals "range" = some none)
    (z_sorted : PySem.W.nsIn K mainGlobals "sorted" = some none)
    (z_sum : PySem.W.nsIn K mainGlobals "sum" = some none)
    (z_tuple : PySem.W.nsIn K mainGlobals "tuple" = some none)
    :
    ∃ (cs : List (Addr × Addr)) (fd : FuncData), (∀ p ∈ cs, ∃ y ∈ (["farther_order"] : List Str), tabIn K y = some p) ∧ (∀ p ∈ cs, K.lookup p.2 = none) ∧ (∀ (s : Shared) (v : Value), BindsTo s fd ⟨[v], []⟩ [("_law_script", v)]) ∧
      ∀ base : Heap, K.In base → base.Ns mainGlobals mg → (∀ p ∈ cs, TabB base mg p.1 p.2) → FnG l.prog w K mg base 8 fa fd ["_law_script"] (spD (tabsOf cs ["farther_order"]) K 1 g_law) := by
  have e := hfa.symm.trans (PySem.W.mg_of X G a27)
  cases e
  have F1 := fun_mk (st := s_flows) l1 c1 k1
  have b1 := F1.binds (ps := ["counts"]) fun _ _ _ _ _ _ us hl => match us, hl with | [_], _ => rfl
  have F2 := fun_mk (st := s_flows_behind) l2 c2 k2
  have b2 := F2.binds (ps := ["runs"]) fun _ _ _ _ _ _ us hl => match us, hl with | [_], _ => rfl
  have F3 := fun_mk (st := s_require_room) l3 c3 k3
  have b3 := F3.binds (ps := ["runs"]) fun _ _ _ _ _ _ us hl => match us, hl with | [_], _ => rfl
  have F4 := fun_mk (st := s_flow_behind) l4 c4 k4
  have b4 := F4.binds (ps := ["flow", "size", "count"]) fun _ _ _ _ _ _ us hl => match us, hl with | [_, _, _], _ => rfl
  have F5 := fun_mk (st := s_taken) l5 c5 k5
  have b5 := F5.binds (ps := ["counts"]) fun _ _ _ _ _ _ us hl => match us, hl with | [_], _ => rfl
  have F6 := fun_mk (st := s_greatest_distance) l6 c6 k6
  have b6 := F6.binds (ps := ["counts"]) fun _ _ _ _ _ _ us hl => match us, hl with | [_], _ => rfl
  have F7 := fun_mk (st := s_square_sum) l7 c7 k7
  have b7 := F7.binds (ps := ["counts"]) fun _ _ _ _ _ _ us hl => match us, hl with | [_], _ => rfl
  have F8 := fun_mk (st := s_waits) l8 c8 k8
  have b8 := F8.binds (ps := ["counts"]) fun _ _ _ _ _ _ us hl => match us, hl with | [_], _ => rfl
  have F9 := fun_mk (st := s_insert) l9 c9 k9
  have b9 := F9.binds (ps := ["probes", "rule", "layout", "key"]) fun _ _ _ _ _ _ us hl => match us, hl with | [_, _, _, _], _ => rfl
  have F10 := fun_mk (st := s_layout_of) l10 c10 k10
  have b10 := F10.binds (ps := ["probes", "rule", "history"]) fun _ _ _ _ _ _ us hl => match us, hl with | [_, _, _], _ => rfl
  have F11 := fun_mk (st := s_rule_of_orders) l11 c11 k11
  have b11 := F11.binds (ps := ["orders"]) fun _ _ _ _ _ _ us hl => match us, hl with | [_], _ => rfl
  have F12 := fun_mk (st := s_table_of_order) l12 c12 k12
  have b12 := F12.binds (ps := ["order"]) fun _ _ _ _ _ _ us hl => match us, hl with | [_], _ => rfl
  have F13 := fun_mk (st := s_ring_at) l13 c13 k13
  have b13 := F13.binds (ps := ["rule", "slot"]) fun _ _ _ _ _ _ us hl => match us, hl with | [_, _], _ => rfl
  have F14 := fun_mk (st := s_is_ordered) l14 c14 k14
  have b14 := F14.binds (ps := ["rule"]) fun _ _ _ _ _ _ us hl => match us, hl with | [_], _ => rfl
  have F15 := fun_mk (st := s_farther_rule) l15 c15 k15
  have b15 := F15.binds (ps := ["probes"]) fun _ _ _ _ _ _ us hl => match us, hl with | [_], _ => rfl
  have F16 := fun_mk (st := s_farther_order) l16 c16 k16
  have b16 := F16.binds (ps := ["probes", "slot"]) fun _ _ _ _ _ _ us hl => match us, hl with | [_, _], _ => rfl
  have F17 := fun_mk (st := s__law_pot) l17 c17 k17
  have b17 := F17.binds (ps := ["_law_script", "_law_k"]) fun _ _ _ _ _ _ us hl => match us, hl with | [_, _], _ => rfl
  have F18 := fun_mk (st := s__law_take) l18 c18 k18
  have b18 := F18.binds (ps := ["_law_pot_here", "_law_size"]) fun _ _ _ _ _ _ us hl => match us, hl with | [_, _], _ => rfl
  have F19 := fun_mk (st := s__law_pick) l19 c19 k19
  have b19 := F19.binds (ps := ["_law_pot_here", "_law_some"]) fun _ _ _ _ _ _ us hl => match us, hl with | [_, _], _ => rfl
  have F20 := fun_mk (st := s__law_mixed) l20 c20 k20
  have b20 := F20.binds (ps := ["_law_pot_here", "_law_some"]) fun _ _ _ _ _ _ us hl => match us, hl with | [_, _], _ => rfl
  have F21 := fun_mk (st := s__law_line) l21 c21 k21
  have b21 := F21.binds (ps := ["_law_size", "_law_begin"]) fun _ _ _ _ _ _ us hl => match us, hl with | [_, _], _ => rfl
  have F22 := fun_mk (st := s__law_line_setting) l22 c22 k22
  have b22 := F22.binds (ps := ["_law_pot_here", "_law_many", "_law_spots"]) fun _ _ _ _ _ _ us hl => match us, hl with | [_, _, _], _ => rfl
  have F23 := fun_mk (st := s__law_worths) l23 c23 k23
  have b23 := F23.binds (ps := ["_law_homes", "_law_pairs", "_law_size"]) fun _ _ _ _ _ _ us hl => match us, hl with | [_, _, _], _ => rfl
  have F24 := fun_mk (st := s__law_all_ways) l24 c24 k24
  have b24 := F24.binds (ps := ["_law_many", "_law_spots"]) fun _ _ _ _ _ _ us hl => match us, hl with | [_, _], _ => rfl
  have F25 := fun_mk (st := s__law_setting_right) l25 c25 k25
  have b25 := F25.binds (ps := ["_law_pot_here", "_law_many", "_law_spots"]) fun _ _ _ _ _ _ us hl => match us, hl with | [_, _, _], _ => rfl
  have F26 := fun_mk (st := s__law_right) l26 c26 k26
  have b26 := F26.binds (ps := ["_law_pot_here"]) fun _ _ _ _ _ _ us hl => match us, hl with | [_], _ => rfl
  have F27 := fun_mk (st := s_law) l27 c27 k27
  have b27 := F27.binds (ps := ["_law_script"]) fun _ _ _ _ _ _ us hl => match us, hl with | [_], _ => rfl
  have tin1 : tabIn K "farther_order" = some (lc1, lp1) := by
    unfold tabIn
    simp only [a16, l16, cdr1, lk1, lv1]
  refine ⟨[(lc1, lp1)], _, fun p hp => ?_, fun p hp => ?_, fun s v => F27.bindsK fun _ _ _ _ _ _ => rfl, fun base _ _ tb => ?_⟩
  · simp only [List.mem_cons, List.not_mem_nil, or_false] at hp
    rcases hp with rfl
    · exact ⟨"farther_order", by simp, tin1⟩
  · simp only [List.mem_cons, List.not_mem_nil, or_false] at hp
    rcases hp with rfl
    · exact out1
  have D : Defs K mg base (tabsOf [(lc1, lp1)] ["farther_order"]) := ⟨⟨_, _, F1, b1, PySem.W.mg_of X G a1⟩,
    ⟨_, _, F2, b2, PySem.W.mg_of X G a2⟩,
    ⟨_, _, F3, b3, PySem.W.mg_of X G a3⟩,
    ⟨_, _, F4, b4, PySem.W.mg_of X G a4⟩,
    ⟨_, _, F5, b5, PySem.W.mg_of X G a5⟩,
    ⟨_, _, F6, b6, PySem.W.mg_of X G a6⟩,
    ⟨_, _, F7, b7, PySem.W.mg_of X G a7⟩,
    ⟨_, _, F8, b8, PySem.W.mg_of X G a8⟩,
    ⟨_, _, F9, b9, PySem.W.mg_of X G a9⟩,
    ⟨_, _, F10, b10, PySem.W.mg_of X G a10⟩,
    ⟨_, _, F11, b11, PySem.W.mg_of X G a11⟩,
    ⟨_, _, F12, b12, PySem.W.mg_of X G a12⟩,
    ⟨_, _, F13, b13, PySem.W.mg_of X G a13⟩,
    ⟨_, _, F14, b14, PySem.W.mg_of X G a14⟩,
    ⟨_, _, F15, b15, PySem.W.mg_of X G a15⟩,
    ⟨_, _, F16, b16, PySem.W.mg_of X G a16, lc1, lp1, cdr1, tb (lc1, lp1) List.mem_cons_self, List.mem_cons_self, fun p hp e => by
      simp only [tabsOf, List.mem_cons, List.not_mem_nil, or_false] at hp
      rcases hp with rfl
      · rfl
    ⟩,
    ⟨_, _, F17, b17, PySem.W.mg_of X G a17⟩,
    ⟨_, _, F18, b18, PySem.W.mg_of X G a18⟩,
    ⟨_, _, F19, b19, PySem.W.mg_of X G a19⟩,
    ⟨_, _, F20, b20, PySem.W.mg_of X G a20⟩,
    ⟨_, _, F21, b21, PySem.W.mg_of X G a21⟩,
    ⟨_, _, F22, b22, PySem.W.mg_of X G a22⟩,
    ⟨_, _, F23, b23, PySem.W.mg_of X G a23⟩,
    ⟨_, _, F24, b24, PySem.W.mg_of X G a24⟩,
    ⟨_, _, F25, b25, PySem.W.mg_of X G a25⟩,
    ⟨_, _, F26, b26, PySem.W.mg_of X G a26⟩,
    ⟨_, _, F27, b27, PySem.W.mg_of X G a27⟩,
    ⟨_, PySem.W.mg_of X G y_EMPTY, _, rfl⟩,
    PySem.W.mg_none_of X G z_abs,
    PySem.W.mg_none_of X G z_all,
    PySem.W.mg_none_of X G z_enumerate,
    PySem.W.mg_none_of X G z_len,
    PySem.W.mg_none_of X G z_list,
    PySem.W.mg_none_of X G z_max,
    PySem.W.mg_none_of X G z_min,
    PySem.W.mg_none_of X G z_range,
    PySem.W.mg_none_of X G z_sorted,
    PySem.W.mg_none_of X G z_sum,
    PySem.W.mg_none_of X G z_tuple⟩
  obtain ⟨f, fd, F, b, m, C⟩ := law_ok (P := l.prog) (w := w) D
  have e2 := m.symm.trans (PySem.W.mg_of X G a27)
  cases e2
  have e3 := F.one F27
  subst e3
  exact C.fn

end DL.K70
open PySem PySem.W PyProof.Rows
set_option maxHeartbeats 0 in
theorem PySem.Challenge.cw_samelayout_k70_whole_farther_stays_is_be_holds : PySem.Challenge.rw_samelayout_k70_whole_farther_stays_is_be.Holds := by
  w_on; o_law; k_head; (case hw => w_witness2)
  k_fill
  refine SL.walkGT (l := PySem.Challenge.rw_samelayout_k70_whole_farther_stays_is_be) (n := 63) (k := 8) (x := "_law_script") (sp := fun cs K => DL.spD (DL.tabsOf cs ["farther_order"]) K 1 DL.g_law) ["farther_order"] rfl (by decide) rfl ⟨rfl, by decide, by decide⟩ (fun w h Y => by first | exact PySem.W.km_in_of Y | exact PySem.W.kIn_of Y) (fun y hy => by
    simp only [List.mem_cons, List.not_mem_nil, or_false] at hy
    rcases hy with rfl <;> decide +kernel) ?F (fun cs K H a ns hl em hS => DL.law_start DL.tabsOf_mem em hS fun x hx => ⟨ns, x, rfl, hx, hl, fun _ => rfl⟩)
  case F =>
    intro w mg fa h KX G hmg
    refine' DL.K70.all_mk KX G hmg ?a1 ?l1 ?c1 ?k1 ?a2 ?l2 ?c2 ?k2 ?a3 ?l3 ?c3 ?k3 ?a4 ?l4 ?c4 ?k4 ?a5 ?l5 ?c5 ?k5 ?a6 ?l6 ?c6 ?k6 ?a7 ?l7 ?c7 ?k7 ?a8 ?l8 ?c8 ?k8 ?a9 ?l9 ?c9 ?k9 ?a10 ?l10 ?c10 ?k10 ?a11 ?l11 ?c11 ?k11 ?a12 ?l12 ?c12 ?k12 ?a13 ?l13 ?c13 ?k13 ?a14 ?l14 ?c14 ?k14 ?a15 ?l15 ?c15 ?k15 ?a16 ?l16 ?c16 ?k16 ?a17 ?l17 ?c17 ?k17 ?a18 ?l18 ?c18 ?k18 ?a19 ?l19 ?c19 ?k19 ?a20 ?l20 ?c20 ?k20 ?a21 ?l21 ?c21 ?k21 ?a22 ?l22 ?c22 ?k22 ?a23 ?l23 ?c23 ?k23 ?a24 ?l24 ?c24 ?k24 ?a25 ?l25 ?c25 ?k25 ?a26 ?l26 ?c26 ?k26 ?a27 ?l27 ?c27 ?k27 ?cdr1 ?lk1 ?lv1 ?out1 ?y_EMPTY ?z_abs ?z_all ?z_enumerate ?z_len ?z_list ?z_max ?z_min ?z_range ?z_sorted ?z_sum ?z_tuple
    (case a1 => k_is); (case l1 => k_is); (case c1 => k_is); (case k1 => k_is)
    (case a2 => k_is); (case l2 => k_is); (case c2 => k_is); (case k2 => k_is)
    (case a3 => k_is); (case l3 => k_is); (case c3 => k_is); (case k3 => k_is)
    (case a4 => k_is); (case l4 => k_is); (case c4 => k_is); (case k4 => k_is)
    (case a5 => k_is); (case l5 => k_is); (case c5 => k_is); (case k5 => k_is)
    (case a6 => k_is); (case l6 => k_is); (case c6 => k_is); (case k6 => k_is)
    (case a7 => k_is); (case l7 => k_is); (case c7 => k_is); (case k7 => k_is)
    (case a8 => k_is); (case l8 => k_is); (case c8 => k_is); (case k8 => k_is)
    (case a9 => k_is); (case l9 => k_is); (case c9 => k_is); (case k9 => k_is)
    (case a10 => k_is); (case l10 => k_is); (case c10 => k_is); (case k10 => k_is)
    (case a11 => k_is); (case l11 => k_is); (case c11 => k_is); (case k11 => k_is)
    (case a12 => k_is); (case l12 => k_is); (case c12 => k_is); (case k12 => k_is)
    (case a13 => k_is); (case l13 => k_is); (case c13 => k_is); (case k13 => k_is)
    (case a14 => k_is); (case l14 => k_is); (case c14 => k_is); (case k14 => k_is)
    (case a15 => k_is); (case l15 => k_is); (case c15 => k_is); (case k15 => k_is)
    (case a16 => k_is); (case l16 => k_is); (case c16 => k_is); (case k16 => k_is)
    (case a17 => k_is); (case l17 => k_is); (case c17 => k_is); (case k17 => k_is)
    (case a18 => k_is); (case l18 => k_is); (case c18 => k_is); (case k18 => k_is)
    (case a19 => k_is); (case l19 => k_is); (case c19 => k_is); (case k19 => k_is)
    (case a20 => k_is); (case l20 => k_is); (case c20 => k_is); (case k20 => k_is)
    (case a21 => k_is); (case l21 => k_is); (case c21 => k_is); (case k21 => k_is)
    (case a22 => k_is); (case l22 => k_is); (case c22 => k_is); (case k22 => k_is)
    (case a23 => k_is); (case l23 => k_is); (case c23 => k_is); (case k23 => k_is)
    (case a24 => k_is); (case l24 => k_is); (case c24 => k_is); (case k24 => k_is)
    (case a25 => k_is); (case l25 => k_is); (case c25 => k_is); (case k25 => k_is)
    (case a26 => k_is); (case l26 => k_is); (case c26 => k_is); (case k26 => k_is)
    (case a27 => k_is); (case l27 => k_is); (case c27 => k_is); (case k27 => k_is)
    (case cdr1 => first | rfl | k_is); (case lk1 => k_is); (case lv1 => first | rfl | k_is); (case out1 => first | rfl | k_is)
    (case y_EMPTY => k_is)
    (case z_abs => k_is)
    (case z_all => k_is)
    (case z_enumerate => k_is)
    (case z_len => k_is)
    (case z_list => k_is)
    (case z_max => k_is)
    (case z_min => k_is)
    (case z_range => k_is)
    (case z_sorted => k_is)
    (case z_sum => k_is)
    (case z_tuple => k_is)

